import PyProof.Rows.All
import Wide.All
import OpenK.AllK
import Wide.FinOn
import Lean
import PyProof.EqAt
import PyProof.EqKinds
import PyProof.TupleCall
import PyProof.NeData
import PyProof.Rows.StrJoin2
import PyProof.Rows.SortStr
import PyProof.Rows.SortWalk
import KE.KRevIter
import PyProof.Rows.RuleN_isinstance
import PyProof.StrReplace2
import PyProof.StrWalks
import PyProof.Draws
import PyProof.EnumMake
import PyProof.Rows.StrNews2
import PyProof.StrLawsTight
import PyProof.StrLawsReplace
import PyProof.ConsumeWalk
import PyProof.StrLawsFrom
import PyProof.DictValues
import PyProof.Rows.SumAny
import PyProof.SeqI3
import PyProof.NoPylong
import PySem.Challenge.RW_tagmend_k23_faults_at_places
set_option Elab.async false
set_option linter.all false
set_option maxRecDepth 100000
local macro_rules | `(tactic| omega) => `(tactic| lia)
namespace L2
open PySem PySem.Spec PyProof.Rows
abbrev Key := Sum Int Str
def keyIs : Key → Value → Bool
  | .inl k, v => Value.isInt k v
  | .inr x, v => Value.isStrOf x v
def keyH (w : World) : Key → Int
  | .inl k => hashInt k
  | .inr x => hashStr w x
theorem keyIs_shape : ∀ {k : Key} {v : Value}, keyIs k v = true → (∃ i t, k = Sum.inl i ∧ v = Value.int i t) ∨ (∃ x t, k = Sum.inr x ∧ v = Value.str x t)
  | .inl i, v, h => by
    obtain ⟨t, e⟩ := Value.isInt_shape (k := i) (v := v) h
    exact .inl ⟨i, t, rfl, e⟩
  | .inr x, v, h => by
    obtain ⟨t, e⟩ := Value.isStrOf_shape (x := x) (v := v) h
    exact .inr ⟨x, t, rfl, e⟩
theorem keyIs_int (i : Int) (t : Tok) : keyIs (.inl i) (.int i t) = true := by simp [keyIs, Value.isInt]
theorem keyIs_str (x : Str) (t : Tok) : keyIs (.inr x) (.str x t) = true := by simp [keyIs, Value.isStrOf]
theorem key_ll (a b : Int) : decide ((Sum.inl a : Key) = Sum.inl b) = (a == b) := by
  by_cases e : a = b
  · subst e; simp
  · have h : ¬ (Sum.inl a : Key) = Sum.inl b := fun q => e (Sum.inl.inj q)
    rw [decide_eq_false h]
    exact (beq_eq_false_iff_ne.mpr e).symm
theorem key_rr (a b : Str) : decide ((Sum.inr a : Key) = Sum.inr b) = decide (a = b) := by
  by_cases e : a = b
  · subst e; simp
  · have h : ¬ (Sum.inr a : Key) = Sum.inr b := fun q => e (Sum.inr.inj q)
    rw [decide_eq_false h, decide_eq_false e]
theorem key_lr (a : Int) (b : Str) : decide ((Sum.inl a : Key) = Sum.inr b) = false := decide_eq_false (fun q => nomatch q)
theorem key_rl (a : Str) (b : Int) : decide ((Sum.inr a : Key) = Sum.inl b) = false := decide_eq_false (fun q => nomatch q)
def mixKind (prog : Program) (w : World) : PySem.KeyKind prog w Key where
  is := keyIs
  hash := keyH w
  inj := fun v a b ha hb => by
    rcases keyIs_shape ha with ⟨i, t, rfl, rfl⟩ | ⟨x, t, rfl, rfl⟩
    · rcases keyIs_shape hb with ⟨j, u, rfl, e⟩ | ⟨y, u, rfl, e⟩
      · injection e with e1 _; rw [e1]
      · exact nomatch e
    · rcases keyIs_shape hb with ⟨j, u, rfl, e⟩ | ⟨y, u, rfl, e⟩
      · exact nomatch e
      · injection e with e1 _; rw [e1]
  byValue := fun k v h => by
    rcases keyIs_shape h with ⟨i, t, rfl, rfl⟩ | ⟨x, t, rfl, rfl⟩ <;> rfl
  pyHash := fun hv h => by
    rcases keyIs_shape hv with ⟨i, t, rfl, rfl⟩ | ⟨x, t, rfl, rfl⟩
    · exact wpAny_pyHash_int h
    · exact wpAny_pyHash_str h
  eqBool := fun hu hv h => by
    rcases keyIs_shape hu with ⟨i, t, rfl, rfl⟩ | ⟨x, t, rfl, rfl⟩
    · rcases keyIs_shape hv with ⟨j, u, rfl, rfl⟩ | ⟨y, u, rfl, rfl⟩
      · rw [key_ll] at h; exact wpAny_eqBool_int h
      · rw [key_lr] at h; exact SeqAt.EqAt.int_str i t y u _ _ _ _ h
    · rcases keyIs_shape hv with ⟨j, u, rfl, rfl⟩ | ⟨y, u, rfl, rfl⟩
      · rw [key_rl] at h; exact SeqAt.EqAt.str_int x t j u _ _ _ _ h
      · rw [key_rr] at h; exact wpAny_eqBool_str h
  «strs» := fun k x t v h => by
    rcases keyIs_shape h with ⟨i, u, rfl, e⟩ | ⟨y, u, rfl, e⟩
    · exact nomatch e
    · injection e with e1 _
      subst e1
      cases v <;> rfl
theorem mixKind_int (prog : Program) (w : World) (i : Int) (t : Tok) : (mixKind prog w).is (.inl i) (.int i t) = true := keyIs_int i t
theorem mixKind_str (prog : Program) (w : World) (x : Str) (t : Tok) : (mixKind prog w).is (.inr x) (.str x t) = true := keyIs_str x t
end L2
namespace L2
open PySem PySem.Spec PyProof.Rows
inductive V where
  | non | bl (b : Bool) | int (i : Int) | str (x : Str) | byt (b : Array UInt8) | flt (b : UInt64) | ref (a : Addr) | ty (n : String)
  deriving DecidableEq
def RelV : V → Value → Prop
  | .non, u => u = Value.none
  | .bl b, u => u = Value.bool b
  | .int i, u => ∃ t, u = Value.int i t
  | .str x, u => ∃ t, u = Value.str x t
  | .byt b, u => ∃ t, u = Value.bytes b t
  | .flt b, u => ∃ t, u = Value.float b t
  | .ref a, u => u = Value.ref a
  | .ty n, u => u = Value.type n
abbrev Vals : List V → List Value → Prop := Paired RelV
theorem Vals.length {xs : List V} {us : List Value} (r : Vals xs us) : xs.length = us.length := Paired.length r
theorem Vals.get : ∀ {xs : List V} {us : List Value} {i : Nat} {x : V}, Vals xs us → xs[i]? = some x → ∃ u, us[i]? = some u ∧ RelV x u
  | _, _, _, _, .nil, e => by simp at e
  | _, _, 0, _, .cons r _, e => by simp at e; subst e; exact ⟨_, rfl, r⟩
  | _, _, i + 1, x, .cons _ t, e => by
    obtain ⟨u, h1, h2⟩ := Vals.get (i := i) (x := x) t (by simpa using e)
    exact ⟨u, by simpa using h1, h2⟩
theorem Vals.set {x : V} {u : Value} (r : RelV x u) : ∀ {xs : List V} {us : List Value} (i : Nat), Vals xs us → Vals (xs.set i x) (us.set i u)
  | _, _, _, .nil => .nil
  | _, _, 0, .cons _ t => .cons r t
  | _, _, i + 1, .cons q t => .cons q (Vals.set r i t)
theorem Vals.append : ∀ {xs ys : List V} {us ws : List Value}, Vals xs us → Vals ys ws → Vals (xs ++ ys) (us ++ ws)
  | _, _, _, _, .nil, s => s
  | _, _, _, _, .cons r t, s => .cons r (Vals.append t s)
theorem Vals.take : ∀ {xs : List V} {us : List Value} (n : Nat), Vals xs us → Vals (xs.take n) (us.take n)
  | _, _, 0, _ => .nil
  | _, _, _ + 1, .nil => .nil
  | _, _, n + 1, .cons r t => .cons r (Vals.take n t)
theorem Vals.drop : ∀ {xs : List V} {us : List Value} (n : Nat), Vals xs us → Vals (xs.drop n) (us.drop n)
  | _, _, 0, r => r
  | _, _, _ + 1, .nil => .nil
  | _, _, n + 1, .cons _ t => Vals.drop n t
def RelO : Option V → Option Value → Prop
  | some v, some u => RelV v u
  | none, none => True
  | _, _ => False
def KV {κ : Type} : List (κ × V) → List (κ × Value) → Prop := Paired fun (p : κ × V) (q : κ × Value) => p.1 = q.1 ∧ RelV p.2 q.2
def kV : Key → V
  | .inl i => .int i
  | .inr x => .str x
inductive HO where
  /-- a list -/
  | lst (xs : List V)
  /-- a tuple (never changes) -/
  | tup (xs : List V)
  /-- a dict whose keys are ints and texts; one whose keys are tuples of ints and texts (the empty one is both) -/
  | dK (kvs : List (Key × V)) | dT (kvs : List (List Key × V))
  /-- a set of ints: its members, its size -/
  | set (S : Int → Bool) (n : Nat)
  /-- an instance of the class at C, its dict at dx, its attributes -/
  | ins (C dx : Addr) (fs : List (Str × V))
  /-- the dict of the instance at x -/
  | own (x : Addr)
  /-- the dict of an exception -/
  | xd (fs : List (Str × V))
  /-- a bound method, f of x -/
  | met (f x : Addr)
  /-- a range object lo, lo + 1, .. below hi -/
  | rng (lo hi : Int)
  /-- a thing that is known to the object (the script; a dict while a loop walks it): read, never written while it is so -/
  | frz (o : Obj) (u : HO)
  /-- a code object's table -/
  | tbl (ps : Array Value)
  /-- any other thing, by what is true of its one object (a def of one's own: SetO a S n := HO.ext fun h => ..) -/
  | ext (φ : Heap → Prop)
abbrev Hp := Addr → Option HO
def upd (H : Hp) (a : Addr) (o : HO) : Hp := fun b => if b = a then some o else H b
theorem upd_same {H : Hp} {a : Addr} {o : HO} : upd H a o a = some o := by unfold upd; rw [if_pos rfl]
theorem upd_ne {H : Hp} {a b : Addr} {o : HO} (h : b ≠ a) : upd H a o b = H b := by unfold upd; rw [if_neg h]
theorem ne_of {H : Hp} {a b : Addr} {o u : HO} (h : H a = some o) (h' : H b = some u) (d : o ≠ u) : a ≠ b := by
  intro e; subst e; rw [h] at h'; exact d (Option.some.inj h')
theorem ne_of_none {H : Hp} {a b : Addr} {o : HO} (h : H a = some o) (h' : H b = none) : a ≠ b := by
  intro e; subst e; rw [h] at h'; cases h'
section
variable (P : Program) (w : World)
def ObjOk (H : Hp) (h : Heap) (a : Addr) : HO → Prop
  | .lst xs => xs.length ≤ sizeLine ∧ ∃ (its : List Value) (n : Nat), Vals xs its ∧ h.get? a = some { cls := .type "list", data := .seq its.toArray n }
  | .tup xs => xs.length ≤ sizeLine ∧ ∃ its : List Value, Vals xs its ∧ IsTup h a its.toArray
  | .dK kvs => kvs.length ≤ sizeLine ∧ (a == sysModules) = false ∧ ∃ vs, KV kvs vs ∧ h.DictOf (mixKind P w) a vs
  | .dT kvs => kvs.length ≤ sizeLine ∧ (a == sysModules) = false ∧ ∃ xs : List (List Key × Addr × Value),
      Paired (fun (p : List Key × V) (q : List Key × Addr × Value) => p.1 = q.1 ∧ H q.2.1 = some (.tup (p.1.map kV)) ∧ RelV p.2 q.2.2) kvs xs ∧
      ∃ o es ep, h.get? a = some o ∧ o.ExactDict ∧ o.data = .dict es ep ∧ es.toList = xs.map (entryOfKey (tupleKind (mixKind P w))) ∧ (xs.map (·.1)).Nodup
  | .set S n => h.SetOf (intKind P w) a S n
  | .ins C dx fs => H dx = some (.own a) ∧ fs.length ≤ 1000 ∧ dx ≠ a ∧ h.get? a = some (PySem.W.instObj C dx) ∧
      ∃ mA, h.Ns1 dx mA ∧ (∀ f, RelO (fs.lookup f) (mA f)) ∧ PySem.Within mA (fs.map (·.1))
  | .own _ => ∃ o, h.get? a = some o
  | .xd fs => ∃ mA, h.Ns1 a mA ∧ ∀ f, RelO (fs.lookup f) (mA f)
  | .rng lo hi => ∃ t u v, h.get? a = some { cls := .type "range", data := .fields #[.int lo t, .int hi u, .int 1 v] }
  | .frz o u => h.get? a = some o ∧ ObjOk H h a u
  | .tbl ps => h.get? a = some { cls := .none, data := .fields ps }
  | .met f x => h.get? a = some (PySem.W.methodObj (.ref f) (.ref x))
  | .ext φ => φ h ∧ (∃ o, h.get? a = some o) ∧ ∀ h1 h2 : Heap, φ h1 → (∀ o, h1.get? a = some o → h2.get? a = some o) → φ h2
def HOk (H : Hp) (h : Heap) : Prop := ∀ a o, H a = some o → ObjOk P w H h a o
end
section
variable {P : Program} {w : World} {H H' : Hp} {h h' : Heap} {a : Addr} {o : HO}
theorem ObjOk.lt (x : ObjOk P w H h a o) : a < h.objs.size := by
  cases o with
  | lst xs => obtain ⟨_, _, _, _, e⟩ := x; exact Heap.lt_size e
  | tup xs => obtain ⟨_, _, _, p⟩ := x; exact p.lt
  | dK kvs => obtain ⟨_, _, _, _, o, _, _, e, _⟩ := x; exact Heap.lt_size e
  | dT kvs => obtain ⟨_, _, _, _, o, _, _, e, _⟩ := x; exact Heap.lt_size e
  | set S n => obtain ⟨o, _, _, _, e, _⟩ := x; exact Heap.lt_size e
  | ins C dx fs => obtain ⟨_, _, _, e, _⟩ := x; exact Heap.lt_size e
  | own y => obtain ⟨_, e⟩ := x; exact Heap.lt_size e
  | xd fs => obtain ⟨_, ⟨_, _, _, e, _⟩, _⟩ := x; exact Heap.lt_size e
  | rng lo hi => obtain ⟨_, _, _, e⟩ := x; exact Heap.lt_size e
  | frz ob u => obtain ⟨e, _⟩ := x; exact Heap.lt_size e
  | tbl ps => exact Heap.lt_size (show h.get? a = some _ from x)
  | met f y => exact Heap.lt_size (show h.get? a = some _ from x)
  | ext φ => obtain ⟨_, ⟨_, e⟩, _⟩ := x; exact Heap.lt_size e
theorem Paired.mapP {α β : Type} {F G : α → β → Prop} : ∀ {l₁ : List α} {l₂ : List β}, Paired F l₁ l₂ → (∀ a b, F a b → G a b) → Paired G l₁ l₂
  | _, _, .nil, _ => .nil
  | _, _, .cons r t, f => .cons (f _ _ r) (Paired.mapP t f)
theorem ObjOk.stay (x : ObjOk P w H h a o) (k : ∀ b u, (b = a ∨ H b = some (.own a)) → h.get? b = some u → h'.get? b = some u)
    (ho : ∀ b, H b = some (.own a) → H' b = some (.own a)) (ht : ∀ b xs, H b = some (.tup xs) → H' b = some (.tup xs)) : ObjOk P w H' h' a o := by
  induction o with
  | lst xs => obtain ⟨z, its, n, r, e⟩ := x; exact ⟨z, its, n, r, k _ _ (.inl rfl) e⟩
  | tup xs => obtain ⟨z, its, r, ob, e, c⟩ := x; exact ⟨z, its, r, ob, k _ _ (.inl rfl) e, c⟩
  | dK kvs => obtain ⟨z, y, vs, r, ob, es, ep, e, c⟩ := x; exact ⟨z, y, vs, r, ob, es, ep, k _ _ (.inl rfl) e, c⟩
  | dT kvs =>
    obtain ⟨z, y, xs, r, ob, es, ep, e, c⟩ := x
    exact ⟨z, y, xs, Paired.mapP r fun p q z => ⟨z.1, ht _ _ z.2.1, z.2.2⟩, ob, es, ep, k _ _ (.inl rfl) e, c⟩
  | set S n => obtain ⟨ob, es, ep, t, e, c⟩ := x; exact ⟨ob, es, ep, t, k _ _ (.inl rfl) e, c⟩
  | ins C dx fs =>
    obtain ⟨d, z, ne, e, mA, ⟨od, es, ep, e2, c⟩, r⟩ := x
    exact ⟨ho _ d, z, ne, k _ _ (.inl rfl) e, mA, ⟨od, es, ep, k _ _ (.inr d) e2, c⟩, r⟩
  | own y => obtain ⟨ob, e⟩ := x; exact ⟨ob, k _ _ (.inl rfl) e⟩
  | xd fs => obtain ⟨mA, ⟨od, es, ep, e, c⟩, r⟩ := x; exact ⟨mA, ⟨od, es, ep, k _ _ (.inl rfl) e, c⟩, r⟩
  | rng lo hi => obtain ⟨t, u, v, e⟩ := x; exact ⟨t, u, v, k _ _ (.inl rfl) e⟩
  | frz ob u ih => obtain ⟨e, q⟩ := x; exact ⟨k _ _ (.inl rfl) e, ih q⟩
  | tbl ps =>
    have e : h.get? a = some { cls := .none, data := .fields ps } := x
    show h'.get? a = some { cls := .none, data := .fields ps }
    exact k a _ (.inl rfl) e
  | met f y =>
    have e : h.get? a = some (PySem.W.methodObj (.ref f) (.ref y)) := x
    show h'.get? a = some (PySem.W.methodObj (.ref f) (.ref y))
    exact k a _ (.inl rfl) e
  | ext φ => obtain ⟨p, ⟨o, e⟩, st⟩ := x; exact ⟨st _ _ p fun o q => k _ _ (.inl rfl) q, ⟨o, k _ _ (.inl rfl) e⟩, st⟩
theorem HOk.lt (x : HOk P w H h) (e : H a = some o) : a < h.objs.size := (x a o e).lt
theorem HOk.fresh (x : HOk P w H h) (e : h.objs.size ≤ a) : H a = none := by
  cases q : H a with
  | none => rfl
  | some u => exact absurd (Nat.lt_of_lt_of_le (x.lt q) e) (Nat.lt_irrefl _)
theorem HOk.kept (x : HOk P w H h) (k : ∀ b u, h.get? b = some u → h'.get? b = some u) : HOk P w H h' := fun a o e =>
  (x a o e).stay (fun b u _ q => k b u q) (fun _ q => q) fun _ _ q => q
theorem HOk.laid (x : HOk P w H h) (k : ∀ b u, h.get? b = some u → h'.get? b = some u) (hp : h.objs.size ≤ a) (new : ObjOk P w (upd H a o) h' a o) : HOk P w (upd H a o) h' := fun b u e => by
  have hn := x.fresh hp
  by_cases hb : b = a
  · subst hb; rw [upd_same] at e; cases e; exact new
  · rw [upd_ne hb] at e
    exact (x b u e).stay (fun c v _ q => k c v q) (fun c q => by rw [upd_ne (ne_of_none q hn)]; exact q) fun c xs q => by rw [upd_ne (ne_of_none q hn)]; exact q
end
def Rd (H : Hp) (a : Addr) (u : HO) : Prop := H a = some u ∨ ∃ o, H a = some (.frz o u)
theorem Rd.ok {P : Program} {w : World} {H : Hp} {h : Heap} {a : Addr} {u : HO} (r : Rd H a u) (x : HOk P w H h) : ObjOk P w H h a u := by
  rcases r with r | ⟨o, r⟩
  · exact x a u r
  · obtain ⟨_, q⟩ := x a _ r
    exact q
def Mut : Option HO → Prop
  | some (.lst _) => True
  | some (.dK _) => True
  | some (.dT _) => True
  | some (.set _ _) => True
  | some (.ins _ _ _) => True
  | some (.ext _) => True
  | _ => False
section
variable {P : Program} {w : World} {H : Hp} {h h' : Heap} {x e : Addr} {o' : HO}
theorem HOk.write (ok : HOk P w H h) (mu : Mut (H x)) (he : e = x ∨ H e = some (.own x)) (k : ∀ b u, b ≠ e → h.get? b = some u → h'.get? b = some u) (heo : ∃ u, h'.get? e = some u)
    (new : ObjOk P w (upd H x o') h' x o') : HOk P w (upd H x o') h' := fun b u q => by
  have nown : ∀ c y, H c = some (.own y) → c ≠ x := fun c y r z => by subst z; rw [r] at mu; exact mu
  have ntup : ∀ c xs, H c = some (.tup xs) → c ≠ x := fun c xs r z => by subst z; rw [r] at mu; exact mu
  by_cases hb : b = x
  · subst hb; rw [upd_same] at q; cases q; exact new
  · rw [upd_ne hb] at q
    by_cases hbe : b = e
    · have q' : H b = some (.own x) := by
        rcases he with z | z
        · exact absurd (hbe.trans z) hb
        · rw [hbe]; exact z
      rw [q] at q'; cases q'
      obtain ⟨v, hv⟩ := heo
      exact ⟨v, by rw [hbe]; exact hv⟩
    · refine (ok b u q).stay (fun c v hc r => k c v ?_ r) (fun c r => by rw [upd_ne (nown c b r)]; exact r) fun c xs r => by rw [upd_ne (ntup c xs r)]; exact r
      rcases hc with rfl | hc
      · exact hbe
      · rintro rfl
        rcases he with z | z
        · exact nown c b hc z
        · rw [hc] at z; cases z; exact hb rfl
end
structure Un (fs ex : List Addr) (H H' : Hp) (h h' : Heap) : Prop where
  keep : ∀ b o, h.get? b = some o → H b = none → b ∉ fs → b ∉ ex → h'.get? b = some o
  slot : ∀ b o, h.get? b = some o → H b = none → b ∈ fs → b ∉ ex → ∃ sl, h'.get? b = some { o with slots := sl }
  free : ∀ b o, h.get? b = some o → H b = none → b ∉ ex → H' b = none
  there : ∀ b o, h.get? b = some o → b ∉ ex → ∃ o', h'.get? b = some o'
  tups : ∀ b xs, H b = some (.tup xs) → H' b = some (.tup xs)
  frzs : ∀ b o u, H b = some (.frz o u) → H' b = some (.frz o u)
  tbls : ∀ b ps, H b = some (.tbl ps) → ∃ more, H' b = some (.tbl (ps ++ more))
section
variable {fs fs' ex ex' : List Addr} {H H1 H2 : Hp} {h h1 h2 h' : Heap} {a x e : Addr} {o : HO}
theorem Un.any (u : Un fs ex H H1 h h1) {b : Addr} {ob : Obj} (q : h.get? b = some ob) (n : H b = none) (hx : b ∉ ex) : ∃ sl, h1.get? b = some { ob with slots := sl } := by
  by_cases hb : b ∈ fs
  · exact u.slot b ob q n hb hx
  · exact ⟨ob.slots, u.keep b ob q n hb hx⟩
theorem Un.kept (k : ∀ b u, h.get? b = some u → h'.get? b = some u) : Un fs ex H H h h' :=
  ⟨fun b ob q _ _ _ => k b ob q, fun b ob q _ _ _ => ⟨ob.slots, k b ob q⟩, fun _ _ _ n _ => n, fun b ob q _ => ⟨ob, k b ob q⟩, fun _ _ q => q, fun _ _ _ q => q, fun _ ps q => ⟨#[], by rw [q]; simp⟩⟩
theorem Un.refl : Un fs ex H H h h := Un.kept fun _ _ q => q
theorem Un.laid (k : ∀ b u, h.get? b = some u → h'.get? b = some u) (hp : h.objs.size ≤ a) (hn : H a = none) : Un fs ex H (upd H a o) h h' where
  keep := fun b u q _ _ _ => k b u q
  slot := fun b u q _ _ _ => ⟨u.slots, k b u q⟩
  free := fun b u q n _ => by rw [upd_ne (Nat.ne_of_lt (Nat.lt_of_lt_of_le (Heap.lt_size q) hp))]; exact n
  there := fun b u q _ => ⟨u, k b u q⟩
  tups := fun b xs q => by rw [upd_ne (ne_of_none q hn)]; exact q
  frzs := fun b u xs q => by rw [upd_ne (ne_of_none q hn)]; exact q
  tbls := fun b ps q => ⟨#[], by rw [upd_ne (ne_of_none q hn), q]; simp⟩
theorem Un.write (mu : Mut (H x)) (he : e = x ∨ H e = some (.own x)) (k : ∀ b u, b ≠ e → h.get? b = some u → h'.get? b = some u) (heo : ∃ u, h'.get? e = some u) : Un fs ex H (upd H x o) h h' := by
  have hx : ∀ b, H b = none → b ≠ x := fun b n z => by subst z; rw [n] at mu; exact mu
  have hb : ∀ b, H b = none → b ≠ e := fun b n z => by
    subst z
    rcases he with r | r
    · exact hx b n r
    · rw [n] at r; cases r
  have hm : ∀ b u, H b = some u → ¬ Mut (some u) → b ≠ x := fun b u q nm z => by subst z; rw [q] at mu; exact nm mu
  refine ⟨fun b u q n _ _ => k b u (hb b n) q, fun b u q n _ _ => ⟨u.slots, k b u (hb b n) q⟩, fun b u q n _ => by rw [upd_ne (hx b n)]; exact n, fun b u q _ => ?_,
    fun b xs q => by rw [upd_ne (hm b _ q fun z => z)]; exact q, fun b u xs q => by rw [upd_ne (hm b _ q fun z => z)]; exact q, fun b ps q => ⟨#[], by rw [upd_ne (hm b _ q fun z => z), q]; simp⟩⟩
  by_cases hbe : b = e
  · subst hbe; exact heo
  · exact ⟨u, k b u hbe q⟩
end
def trk (h : Heap) (H : Hp) : List Addr := (List.range h.objs.size).filter fun a => (H a).isSome
def hidT (h : Heap) (H : Hp) : Heap := PySem.W.hideAll h (trk h H)
theorem hidT_size (h : Heap) (H : Hp) : (hidT h H).objs.size = h.objs.size := PySem.W.hideAll_size _ _
theorem hidT_get {h : Heap} {H : Hp} {b : Addr} {o : Obj} (e : h.get? b = some o) (n : H b = none) : (hidT h H).get? b = some o :=
  PySem.W.hideAll_get _ e fun hm => by
    have q : (H b).isSome = true := (List.mem_filter.mp hm).2
    rw [n] at q; simp at q
theorem of_hidT {h : Heap} {H : Hp} {b : Addr} {o : Obj} (e : (hidT h H).get? b = some o) : h.get? b = some o ∧ H b = none := by
  have e' : h.get? b = some o := PySem.W.of_hideAll (trk h H) e
  refine ⟨e', ?_⟩
  cases q : H b with
  | none => rfl
  | some x =>
    have hm : b ∈ trk h H := List.mem_filter.mpr ⟨List.mem_range.mpr (Heap.lt_size e'), by simp [q]⟩
    have z : (hidT h H).get? b = none := PySem.W.hideAll_none (trk h H) hm
    rw [z] at e; cases e
end L2
namespace L2
open PySem PySem.Spec PyProof.Rows
structure Mod (K : PySem.W.Frag) (mg : Str → Option Value) (base : Heap) : Prop where
  kin : K.In base
  glob : base.Ns mainGlobals mg
  blt : ∃ mb, base.Ns builtinsNs mb ∧ ∀ x : Str, x ≠ "__name__" → mb x = bootBuiltins x
  nolimit : base.NoLimit
structure Cx where
  prog : Program
  w : World
  K : PySem.W.Frag
  mg : Str → Option Value
  base : Heap
  A : Around
  N : List Str
  s₀ : Shared
  H₀ : Hp
  env : Env
  outer : List Env
  stack : List Env
  ex : List Addr
  fn : Str → Bool
  calm : Bool
  pn : List (Addr × Obj)
  xe : Value → Shared → Prop
def frs (l : List Env) : List Addr := l.filterMap (·.frame)
abbrev Cx.fs (X : Cx) : List Addr := frs X.outer
def Vis (sc : Scope) (x : Str) : Prop := sc.names.lookup x = some .local ∨ sc.names.lookup x = some .cell ∨ sc.names.lookup x = some .free
def Loc (sc : Scope) (x : Str) : Prop := sc.names.lookup x = some .local ∨ sc.names.lookup x = some .cell
def Look (env : Env) (h : Heap) (m : Str → Option Value) (x : Str) (u : Value) : Prop :=
  (env.kindOf x = some .local ∧ m x = some u) ∨ ((env.kindOf x = some .cell ∨ env.kindOf x = some .free) ∧ ∃ c, env.cells.lookup x = some c ∧ h.IsCell c (some u))
structure Cx.Ok (X : Cx) : Prop where
  mod : Mod X.K X.mg X.base
  kind : X.env.scope.kind = .function
  glob : X.env.globals = mainGlobals
  blt : X.env.builtins = builtinsNs
  above : X.s₀.heap.objs.size ≤ X.env.locals
  inj : ∀ x y c, X.env.cells.lookup x = some c → X.env.cells.lookup y = some c → x = y
  has : ∀ x, (X.env.kindOf x = some .cell ∨ X.env.kindOf x = some .free) → ∃ c, X.env.cells.lookup x = some c
  cab : ∀ x c, X.fn x = true → X.env.cells.lookup x = some c → X.s₀.heap.objs.size ≤ c
  hd : X.calm = true → X.A.handled = none
  frames : X.A.frames = some X.stack
  stk : X.stack = X.outer ∨ (X.stack = X.env :: X.outer ∧ X.env.frame = some X.env.locals)
  exf : ∀ b ∈ X.ex, b ≠ X.env.locals ∧ ∀ x c, X.env.cells.lookup x = some c → c ≠ b
  bs : ∀ b o, X.base.get? b = some o → X.s₀.heap.get? b = some o ∧ X.H₀ b = none
  bsz : X.base.objs.size ≤ X.s₀.heap.objs.size
  noex : ∀ b o, X.base.get? b = some o → b ∉ X.ex
  exfs : ∀ b ∈ X.ex, b ∉ X.fs
  funs : X.s₀.heap.FunFrames X.base X.outer
  frf : ∀ b ∈ X.fs, X.H₀ b = none
structure Inv (X : Cx) (pins : List (Addr × Obj)) (σ : List (Option V)) (H : Hp) (s : Shared) : Prop where
  ok : X.Ok
  os : s.os = X.s₀.os
  bare : AllBare s.gens
  base : Un X.fs X.ex X.H₀ H X.s₀.heap s.heap
  loc : ∃ m, s.heap.Ns X.env.locals m ∧ ∀ (i : Nat) (x : Str) (v : V), X.N[i]? = some x → σ[i]? = some (some v) → Vis X.env.scope x → ∃ u, RelV v u ∧ Look X.env s.heap m x u
  cell : ∀ x c, X.env.cells.lookup x = some c → ∃ v, s.heap.IsCell c v
  free : H X.env.locals = none
  freeC : ∀ x c, X.env.cells.lookup x = some c → H c = none
  pin : ∀ p ∈ X.pn ++ pins, s.heap.get? p.1 = some p.2 ∧ H p.1 = none ∧ p.1 ≠ X.env.locals ∧ p.1 ∉ X.fs ∧ ∀ v, p.2.data ≠ .cell v
  hok : HOk X.prog X.w H s.heap
  len : σ.length = X.N.length
  tk : 0 < s.toks
section
variable {X : Cx} {pins : List (Addr × Obj)} {σ : List (Option V)} {H H' : Hp} {s : Shared} {h' : Heap}
theorem Cx.Ok.nofr (ok : X.Ok) {b : Addr} {o : Obj} (e : X.base.get? b = some o) : b ∉ X.fs := fun hb => by
  have := (ok.funs.mem hb).1
  rw [e] at this; cases this
theorem Inv.bs (I : Inv X pins σ H s) : ∀ b o, X.base.get? b = some o → s.heap.get? b = some o ∧ H b = none := fun b o e =>
  ⟨I.base.keep b o (I.ok.bs b o e).1 (I.ok.bs b o e).2 (I.ok.nofr e) (I.ok.noex b o e), I.base.free b o (I.ok.bs b o e).1 (I.ok.bs b o e).2 (I.ok.noex b o e)⟩
theorem Inv.bk (I : Inv X pins σ H s) : ∀ b o, X.base.get? b = some o → s.heap.get? b = some o := fun b o e => (I.bs b o e).1
theorem Inv.mod (I : Inv X pins σ H s) : Mod X.K X.mg X.base := I.ok.mod
theorem Inv.kIn (I : Inv X pins σ H s) : X.K.In s.heap := I.ok.mod.kin.keeps I.bk
theorem Inv.lt (I : Inv X pins σ H s) : X.env.locals < s.heap.objs.size := let ⟨_, hn, _⟩ := I.loc; hn.lt
theorem Inv.sz (I : Inv X pins σ H s) : X.s₀.heap.objs.size ≤ s.heap.objs.size := Nat.le_trans I.ok.above (Nat.le_of_lt I.lt)
theorem Inv.nofs (I : Inv X pins σ H s) {a : Addr} (h : s.heap.objs.size ≤ a) : a ∉ X.fs := fun hb => by
  obtain ⟨_, o, ho, _⟩ := I.ok.funs.mem hb
  exact absurd (Nat.lt_of_lt_of_le (Heap.lt_size ho) (Nat.le_trans I.sz h)) (Nat.lt_irrefl _)
theorem Inv.cne (I : Inv X pins σ H s) : ∀ x c, X.env.cells.lookup x = some c → c ≠ X.env.locals := fun x c e z => by
  obtain ⟨v, o, ho, hd⟩ := I.cell x c e
  obtain ⟨m, ⟨o', es, ep, ho', hd', _⟩, _⟩ := I.loc
  rw [z, ho'] at ho; cases ho; rw [hd'] at hd; cases hd
theorem Inv.funs (I : Inv X pins σ H s) : s.heap.FunFrames X.base X.outer := by
  have all : ∀ (l : List Env), (∀ b ∈ frs l, b ∈ X.fs) → X.s₀.heap.FunFrames X.base l → s.heap.FunFrames X.base l := by
    intro l
    induction l with
    | nil => intro _ _; trivial
    | cons env r ih =>
      intro hs hl
      obtain ⟨hk, ⟨L, o, hf, hn, ho, hd⟩, hr⟩ := hl
      have hL : L ∈ X.fs := hs L (by unfold frs; rw [List.filterMap_cons, hf]; exact List.mem_cons_self)
      obtain ⟨sl, e⟩ := I.base.slot L o ho (I.ok.frf L hL) hL fun z => I.ok.exfs L z hL
      exact ⟨hk, ⟨L, _, hf, hn, e, hd⟩, ih (fun b hb => hs b (by unfold frs; rw [List.filterMap_cons, hf]; exact List.mem_cons_of_mem _ hb)) hr⟩
  exact all X.outer (fun _ hb => hb) I.ok.funs
theorem Inv.stack (I : Inv X pins σ H s) : s.heap.FunFrames X.base X.stack := by
  rcases I.ok.stk with e | ⟨e, hf⟩
  · rw [e]; exact I.funs
  · rw [e]
    obtain ⟨m, hn, _⟩ := I.loc
    refine .cons (by rw [I.ok.kind]; decide) hf hn ?_ I.funs
    exact Heap.get?_none_of_le (Nat.le_trans I.ok.bsz I.ok.above)
theorem Inv.stkSub (I : Inv X pins σ H s) : ∀ b ∈ frs X.stack, b ∈ X.env.locals :: X.fs := fun b hb => by
  rcases I.ok.stk with e | ⟨e, hf⟩
  · rw [e] at hb; exact List.mem_cons_of_mem _ hb
  · rw [e] at hb
    unfold frs at hb
    rw [List.filterMap_cons, hf] at hb
    exact hb
theorem Inv.stkFree (I : Inv X pins σ H s) : ∀ b ∈ frs X.stack, H b = none := fun b hb => by
  rcases List.mem_cons.mp (I.stkSub b hb) with e | hb
  · rw [e]; exact I.free
  · obtain ⟨_, o, ho, _⟩ := I.ok.funs.mem hb
    exact I.base.free b o ho (I.ok.frf b hb) fun z => I.ok.exfs b z hb
theorem Inv.step {g' : Array GenState} {t' : Nat} {d' : Drawn} {ch : List Addr} (I : Inv X pins σ H s)
    (hch : ∀ b ∈ ch, (b ∈ X.ex ∨ X.s₀.heap.objs.size ≤ b) ∧ b ≠ X.env.locals ∧ (∀ x c, X.env.cells.lookup x = some c → c ≠ b) ∧ ∀ p ∈ X.pn ++ pins, p.1 ≠ b)
    (keep : ∀ b o, b ≠ X.env.locals → b ∉ X.fs → b ∉ ch → s.heap.get? b = some o → H b = none → h'.get? b = some o)
    (slot : ∀ b o, b ≠ X.env.locals → b ∈ X.fs → b ∉ ch → s.heap.get? b = some o → H b = none → ∃ sl, h'.get? b = some { o with slots := sl }) (free : ∀ b o, b ∉ ch → s.heap.get? b = some o → H b = none → H' b = none)
    (there : ∀ b o, b ∉ ch → s.heap.get? b = some o → ∃ o', h'.get? b = some o')
    (tups : ∀ b xs, H b = some (.tup xs) → H' b = some (.tup xs)) (frzs : ∀ b o u, H b = some (.frz o u) → H' b = some (.frz o u)) (tbls : ∀ b ps, H b = some (.tbl ps) → ∃ more, H' b = some (.tbl (ps ++ more)))
    (ns : ∀ m, s.heap.Ns X.env.locals m → h'.Ns X.env.locals m) (hok : HOk X.prog X.w H' h') (hg : AllBare g') (ht : 0 < t' := by first | exact Nat.succ_pos _ | assumption | exact Inv.tk ‹_› | omega) :
    Inv X pins σ H' { s with heap := h', gens := g', drawn := d', toks := t' } := by
  have neL : ∀ b o, X.s₀.heap.get? b = some o → b ≠ X.env.locals := fun b o e => Nat.ne_of_lt (Nat.lt_of_lt_of_le (Heap.lt_size e) I.ok.above)
  have neC : ∀ b o, X.s₀.heap.get? b = some o → b ∉ X.ex → b ∉ ch := fun b o e hx hb => by
    rcases (hch b hb).1 with z | z
    · exact hx z
    · exact absurd (Nat.lt_of_lt_of_le (Heap.lt_size e) z) (Nat.lt_irrefl _)
  have cellK : ∀ x c, X.env.cells.lookup x = some c → ∀ v, s.heap.IsCell c v → h'.IsCell c v := fun x c e v ⟨o, ho, hd⟩ => by
    have nch : c ∉ ch := fun z => (hch c z).2.2.1 x c e rfl
    by_cases hc : c ∈ X.fs
    · obtain ⟨sl, q⟩ := slot c o (I.cne x c e) hc nch ho (I.freeC x c e)
      exact ⟨_, q, hd⟩
    · exact ⟨o, keep c o (I.cne x c e) hc nch ho (I.freeC x c e), hd⟩
  refine ⟨I.ok, I.os, hg, ⟨fun b o e n hb hx => ?_, fun b o e n hb hx => ?_, fun b o e n hx => ?_, fun b o e hx => ?_, fun b xs e => tups b xs (I.base.tups b xs e), fun b o xs e => frzs b o xs (I.base.frzs b o xs e), fun b ps e => ?_⟩, ?_, fun x c e => ?_, ?_, fun x c e => ?_, fun p hp => ?_, hok, I.len, ht⟩
  · exact keep b o (neL b o e) hb (neC b o e hx) (I.base.keep b o e n hb hx) (I.base.free b o e n hx)
  · obtain ⟨sl, e1⟩ := I.base.slot b o e n hb hx
    obtain ⟨sl', e2⟩ := slot b _ (neL b o e) hb (neC b o e hx) e1 (I.base.free b o e n hx)
    exact ⟨sl', e2⟩
  · obtain ⟨o', e1⟩ := I.base.there b o e hx
    exact free b o' (neC b o e hx) e1 (I.base.free b o e n hx)
  · obtain ⟨o', e1⟩ := I.base.there b o e hx
    exact there b o' (neC b o e hx) e1
  · obtain ⟨m1, e1⟩ := I.base.tbls b ps e
    obtain ⟨m2, e2⟩ := tbls b _ e1
    exact ⟨m1 ++ m2, by rw [e2, Array.append_assoc]⟩
  · obtain ⟨m, hn, hl⟩ := I.loc
    refine ⟨m, ns m hn, fun i x v e1 e2 e3 => ?_⟩
    obtain ⟨u, r, l⟩ := hl i x v e1 e2 e3
    refine ⟨u, r, ?_⟩
    rcases l with l | ⟨k, c, e, z⟩
    · exact .inl l
    · exact .inr ⟨k, c, e, cellK x c e _ z⟩
  · obtain ⟨v, z⟩ := I.cell x c e
    exact ⟨v, cellK x c e v z⟩
  · obtain ⟨m, ⟨o, _, _, ho, _⟩, _⟩ := I.loc
    exact free _ o (fun z => (hch _ z).2.1 rfl) ho I.free
  · obtain ⟨v, o, ho, hd⟩ := I.cell x c e
    exact free c o (fun z => (hch c z).2.2.1 x c e rfl) ho (I.freeC x c e)
  · obtain ⟨e, n, ne, nf, d⟩ := I.pin p hp
    have nch : p.1 ∉ ch := fun z => (hch p.1 z).2.2.2 p hp rfl
    exact ⟨keep p.1 p.2 ne nf nch e n, free p.1 p.2 nch e n, ne, nf, d⟩
theorem Inv.un {t' : Nat} (I : Inv X pins σ H s) (u : Un X.fs [] H H' s.heap h') (hok : HOk X.prog X.w H' h') (ht : 0 < t' := by first | exact Nat.succ_pos _ | assumption | exact Inv.tk ‹_› | omega) : Inv X pins σ H' { s with heap := h', toks := t' } := by
  obtain ⟨m, ⟨o, es, ep, ho, r⟩, _⟩ := id I.loc
  obtain ⟨sl, hL⟩ := u.any ho I.free (by simp)
  exact I.step (g' := s.gens) (d' := s.drawn) (ch := []) (fun _ z => nomatch z) (fun b o _ hb _ e n => u.keep b o e n hb (by simp)) (fun b o _ hb _ e n => u.slot b o e n hb (by simp)) (fun b o _ e n => u.free b o e n (by simp)) (fun b o _ e => u.there b o e (by simp)) u.tups u.frzs u.tbls (fun m' hm => by
    obtain ⟨o', es', ep', ho', r'⟩ := hm
    rw [ho] at ho'; cases ho'
    exact ⟨_, es', ep', hL, r'⟩) hok I.bare
theorem Inv.call {g' : Array GenState} {t' : Nat} {d' : Drawn} {ch : List Addr} (I : Inv X pins σ H s) (u : Un (frs X.stack) ch H H' s.heap h') (hok : HOk X.prog X.w H' h') (hg : AllBare g')
    (hch : ∀ b ∈ ch, (b ∈ X.ex ∨ X.s₀.heap.objs.size ≤ b) ∧ b ≠ X.env.locals ∧ (∀ x c, X.env.cells.lookup x = some c → c ≠ b) ∧ ∀ p ∈ X.pn ++ pins, p.1 ≠ b) (ht : 0 < t' := by first | exact Nat.succ_pos _ | assumption | exact Inv.tk ‹_› | omega) :
    Inv X pins σ H' { s with heap := h', gens := g', drawn := d', toks := t' } := by
  obtain ⟨m, ⟨o, es, ep, ho, r⟩, _⟩ := id I.loc
  obtain ⟨sl, hL⟩ := u.any ho I.free fun z => (hch _ z).2.1 rfl
  exact I.step (ch := ch) hch (fun b o hL hb hc e n => u.keep b o e n (fun z => (List.mem_cons.mp (I.stkSub b z)).elim hL hb) hc) (fun b o _ _ hc e n => u.any e n hc) (fun b o hc e n => u.free b o e n hc) (fun b o hc e => u.there b o e hc) u.tups u.frzs u.tbls (fun m' hm => by
    obtain ⟨o', es', ep', ho', r'⟩ := hm
    rw [ho] at ho'; cases ho'
    exact ⟨_, es', ep', hL, r'⟩) hok hg
theorem Inv.turned {t' : Nat} {it : Addr} (I : Inv X pins σ H s) (k : ∀ b o, b ≠ it → s.heap.get? b = some o → h'.get? b = some o) (hn : H it = none) (hL : it ≠ X.env.locals)
    (h1 : it ∈ X.ex ∨ X.s₀.heap.objs.size ≤ it) (h2 : ∀ x c, X.env.cells.lookup x = some c → c ≠ it) (h3 : ∀ p ∈ X.pn ++ pins, p.1 ≠ it) (ht : 0 < t' := by first | exact Nat.succ_pos _ | assumption | exact Inv.tk ‹_› | omega) : Inv X pins σ H { s with heap := h', toks := t' } := by
  have nit : ∀ b u, H b = some u → b ≠ it := fun b u e z => by rw [z, hn] at e; cases e
  refine I.step (g' := s.gens) (d' := s.drawn) (ch := [it]) (fun b hb => ?_) (fun b o _ _ hc e _ => k b o (fun z => hc (by simp [z])) e) (fun b o _ _ hc e _ => ⟨o.slots, k b o (fun z => hc (by simp [z])) e⟩) (fun _ _ _ _ n => n)
    (fun b o hc e => ⟨o, k b o (fun z => hc (by simp [z])) e⟩) (fun _ _ e => e) (fun _ _ _ e => e) (fun b ps e => ⟨#[], by rw [e]; simp⟩) (fun m hm => ?_) (fun b u e => ?_) I.bare
  · have e : b = it := by simpa using hb
    subst e
    exact ⟨h1, hL, h2, h3⟩
  · obtain ⟨o, es, ep, ho, r⟩ := hm
    exact ⟨o, es, ep, k _ o (Ne.symm hL) ho, r⟩
  · refine (I.hok b u e).stay (fun c v hc q => k c v ?_ q) (fun _ q => q) fun _ _ q => q
    rcases hc with z | z
    · rw [z]; exact nit b u e
    · exact nit c _ z
theorem Inv.tok (I : Inv X pins σ H s) (t' : Nat) (ht : 0 < t' := by first | exact Nat.succ_pos _ | assumption | exact Inv.tk ‹_› | omega) : Inv X pins σ H { s with toks := t' } := I.un (h' := s.heap) (t' := t') Un.refl I.hok
theorem Inv.kept {t' : Nat} (I : Inv X pins σ H s) (k : ∀ b u, s.heap.get? b = some u → h'.get? b = some u) (ht : 0 < t' := by first | exact Nat.succ_pos _ | assumption | exact Inv.tk ‹_› | omega) : Inv X pins σ H { s with heap := h', toks := t' } := I.un (Un.kept k) (I.hok.kept k)
theorem Inv.laid {a : Addr} {o : HO} {t' : Nat} (I : Inv X pins σ H s) (k : ∀ b u, s.heap.get? b = some u → h'.get? b = some u) (hp : s.heap.objs.size ≤ a) (new : ObjOk X.prog X.w (upd H a o) h' a o) (ht : 0 < t' := by first | exact Nat.succ_pos _ | assumption | exact Inv.tk ‹_› | omega) :
    Inv X pins σ (upd H a o) { s with heap := h', toks := t' } := I.un (Un.laid k hp (I.hok.fresh hp)) (I.hok.laid k hp new)
theorem Inv.write {x e : Addr} {o : HO} {t' : Nat} (I : Inv X pins σ H s) (mu : Mut (H x)) (he : e = x ∨ H e = some (.own x)) (k : ∀ b u, b ≠ e → s.heap.get? b = some u → h'.get? b = some u) (heo : ∃ u, h'.get? e = some u)
    (new : ObjOk X.prog X.w (upd H x o) h' x o) (ht : 0 < t' := by first | exact Nat.succ_pos _ | assumption | exact Inv.tk ‹_› | omega) : Inv X pins σ (upd H x o) { s with heap := h', toks := t' } := I.un (Un.write mu he k heo) (I.hok.write mu he k heo new)
theorem Inv.weak {σ' : List (Option V)} (I : Inv X pins σ H s) (hl : σ'.length = σ.length) (w : ∀ (i : Nat) v, σ'[i]? = some (some v) → σ[i]? = some (some v)) : Inv X pins σ' H s :=
  ⟨I.ok, I.os, I.bare, I.base, let ⟨m, hn, hl'⟩ := I.loc; ⟨m, hn, fun i x v e1 e2 e3 => hl' i x v e1 (w i v e2) e3⟩, I.cell, I.free, I.freeC, I.pin, I.hok, hl.trans I.len, I.tk⟩
theorem Inv.pins_of {pins' : List (Addr × Obj)} (I : Inv X pins σ H s) (h : ∀ p ∈ pins', s.heap.get? p.1 = some p.2 ∧ H p.1 = none ∧ p.1 ≠ X.env.locals ∧ p.1 ∉ X.fs ∧ ∀ v, p.2.data ≠ .cell v) : Inv X pins' σ H s :=
  ⟨I.ok, I.os, I.bare, I.base, I.loc, I.cell, I.free, I.freeC, fun p hp => (List.mem_append.mp hp).elim (fun z => I.pin p (List.mem_append_left _ z)) (h p), I.hok, I.len, I.tk⟩
theorem nodup_ix {N : List Str} (hN : N.Nodup) {i j : Nat} {x : Str} (a : N[i]? = some x) (b : N[j]? = some x) : i = j := by
  obtain ⟨h1, e1⟩ := List.getElem?_eq_some_iff.mp a
  obtain ⟨h2, e2⟩ := List.getElem?_eq_some_iff.mp b
  exact (List.getElem_inj hN).mp (e1.trans e2.symm)
theorem store_ok2 {M : Model} {A : Around} {E : Value → Shared → Prop} {i : Nat} {x : Str} {v : V} {u : Value} {Q : Unit → Shared → Prop} (I : Inv X pins σ H s) (hN : X.N.Nodup) (hi : X.N[i]? = some x) (hx : Loc X.env.scope x) (r : RelV v u)
    (h : ∀ s', Inv X pins (σ.set i (some v)) H s' → (∃ a, Heap.SameBut a s.heap s'.heap ∧ (a = X.env.locals ∨ X.env.cells.lookup x = some a)) → Q () s') (hf : X.fn x = true ∨ X.env.scope.names.lookup x = some .local := by first | exact .inl rfl | exact .inr rfl | assumption) : wpAny M A (storeName X.env x u) Q E s := by
  obtain ⟨m, hn, hl⟩ := id I.loc
  have hcls : (X.env.scope.kind == .class || (X.env.scope.kind == .module && X.env.locals != X.env.globals)) = false := by rw [I.ok.kind]; rfl
  have hiσ : i < σ.length := by rw [I.len]; exact (List.getElem?_eq_some_iff.mp hi).1
  have cne := I.cne
  have tracked : ∀ {a : Addr} {h' : Heap}, (∃ o, s.heap.get? a = some o ∧ H a = none) → Heap.SameBut a s.heap h' → HOk X.prog X.w H h' := fun {a h'} ha hs b ob e => by
    obtain ⟨_, _, hfree⟩ := ha
    refine (I.hok b ob e).stay (fun c w' hc q => (hs.2 c ?_).trans q) (fun _ q => q) fun _ _ q => q
    rintro rfl
    rcases hc with rfl | hc
    · rw [hfree] at e; cases e
    · rw [hfree] at hc; cases hc
  rcases hx with hk | hk
  · refine wpAny_storeName_local hk hn (fun h' hn' hs => ?_) hcls
    obtain ⟨oL, _, _, hoL, _⟩ := id hn
    refine h _ ⟨I.ok, I.os, I.bare, ⟨fun b o e n hb hx => ?_, fun b o e n hb hx => ?_, I.base.free, fun b o e hx => ?_, I.base.tups, I.base.frzs, I.base.tbls⟩, ⟨_, hn', fun j y v' e1 e2 e3 => ?_⟩, fun y c e => ?_, I.free, I.freeC, fun p hp => ?_, tracked ⟨oL, hoL, I.free⟩ hs, by simpa using I.len, by first | exact I.tk | exact Nat.succ_pos _⟩ ⟨_, hs, .inl rfl⟩
    · exact (hs.2 b (Nat.ne_of_lt (Nat.lt_of_lt_of_le (Heap.lt_size e) I.ok.above))).trans (I.base.keep b o e n hb hx)
    · obtain ⟨sl, e1⟩ := I.base.slot b o e n hb hx
      exact ⟨sl, (hs.2 b (Nat.ne_of_lt (Nat.lt_of_lt_of_le (Heap.lt_size e) I.ok.above))).trans e1⟩
    · obtain ⟨o', e1⟩ := I.base.there b o e hx
      exact ⟨o', (hs.2 b (Nat.ne_of_lt (Nat.lt_of_lt_of_le (Heap.lt_size e) I.ok.above))).trans e1⟩
    · by_cases hj : j = i
      · subst hj
        rw [hi] at e1; cases e1
        rw [List.getElem?_set_self hiσ] at e2
        cases e2
        exact ⟨u, r, .inl ⟨hk, by simp⟩⟩
      · rw [List.getElem?_set_ne (Ne.symm hj)] at e2
        obtain ⟨u', r', q⟩ := hl j y v' e1 e2 e3
        refine ⟨u', r', ?_⟩
        rcases q with ⟨k, e⟩ | ⟨k, c, e, z⟩
        · refine .inl ⟨k, ?_⟩
          have : y ≠ x := fun e => hj (nodup_ix hN e1 (e ▸ hi))
          simp [this, e]
        · exact .inr ⟨k, c, e, z.sameBut hs (cne y c e)⟩
    · obtain ⟨w', z⟩ := I.cell y c e
      exact ⟨w', z.sameBut hs (cne y c e)⟩
    · obtain ⟨e, n, ne, nf, d⟩ := I.pin p hp
      exact ⟨(hs.2 p.1 ne).trans e, n, ne, nf, d⟩
  · have hfn : X.fn x = true := by
      rcases hf with z | z
      · exact z
      · rw [z] at hk; cases hk
    obtain ⟨c, hc⟩ := I.ok.has x (.inl hk)
    obtain ⟨w', z⟩ := I.cell x c hc
    refine wpAny_storeName_cell I.ok.kind hk hc z (fun h' hc' hs => ?_)
    obtain ⟨oc, hoc, hocd⟩ := id z
    refine h { s with heap := h' } ⟨I.ok, I.os, I.bare, ⟨fun b o e n hb hx => ?_, fun b o e n hb hx => ?_, I.base.free, fun b o e hx => ?_, I.base.tups, I.base.frzs, I.base.tbls⟩, ⟨m, hn.sameBut hs (Ne.symm (cne x c hc)), fun j y v' e1 e2 e3 => ?_⟩, fun y c' e => ?_, I.free, I.freeC, fun p hp => ?_, tracked ⟨oc, hoc, I.freeC x c hc⟩ hs, by simpa using I.len, by first | exact I.tk | exact Nat.succ_pos _⟩ ⟨c, hs, .inr hc⟩
    · exact (hs.2 b (Nat.ne_of_lt (Nat.lt_of_lt_of_le (Heap.lt_size e) (I.ok.cab x c hfn hc)))).trans (I.base.keep b o e n hb hx)
    · obtain ⟨sl, e1⟩ := I.base.slot b o e n hb hx
      exact ⟨sl, (hs.2 b (Nat.ne_of_lt (Nat.lt_of_lt_of_le (Heap.lt_size e) (I.ok.cab x c hfn hc)))).trans e1⟩
    · obtain ⟨o', e1⟩ := I.base.there b o e hx
      exact ⟨o', (hs.2 b (Nat.ne_of_lt (Nat.lt_of_lt_of_le (Heap.lt_size e) (I.ok.cab x c hfn hc)))).trans e1⟩
    · by_cases hj : j = i
      · subst hj
        rw [hi] at e1; cases e1
        rw [List.getElem?_set_self hiσ] at e2
        cases e2
        exact ⟨u, r, .inr ⟨.inl hk, c, hc, hc'⟩⟩
      · rw [List.getElem?_set_ne (Ne.symm hj)] at e2
        obtain ⟨u', r', q⟩ := hl j y v' e1 e2 e3
        refine ⟨u', r', ?_⟩
        rcases q with q | ⟨k, c', e, z'⟩
        · exact .inl q
        · refine .inr ⟨k, c', e, z'.sameBut hs ?_⟩
          rintro rfl
          exact hj (nodup_ix hN e1 (I.ok.inj _ _ _ e hc ▸ hi))
    · by_cases hcc : c' = c
      · subst hcc; exact ⟨_, hc'⟩
      · obtain ⟨w2, z2⟩ := I.cell y c' e
        exact ⟨w2, z2.sameBut hs hcc⟩
    · obtain ⟨e, n, ne, nf, d⟩ := I.pin p hp
      refine ⟨(hs.2 p.1 ?_).trans e, n, ne, nf, d⟩
      intro q
      rw [q, hoc] at e
      have q' : oc = p.2 := Option.some.inj e
      exact d w' (by rw [← q']; exact hocd)
theorem store_ok {M : Model} {A : Around} {E : Value → Shared → Prop} {i : Nat} {x : Str} {v : V} {u : Value} {Q : Unit → Shared → Prop} (I : Inv X pins σ H s) (hN : X.N.Nodup) (hi : X.N[i]? = some x) (hx : Loc X.env.scope x) (r : RelV v u)
    (h : ∀ s', Inv X pins (σ.set i (some v)) H s' → Q () s') (hf : X.fn x = true ∨ X.env.scope.names.lookup x = some .local := by first | exact .inl rfl | exact .inr rfl | assumption) : wpAny M A (storeName X.env x u) Q E s :=
  store_ok2 I hN hi hx r (fun s' I' _ => h s' I') hf
end
abbrev XK := Value → Option Addr → Hp → Prop
abbrev St := List (Option V)
abbrev VK := V → Hp → Prop
abbrev TE := St → Hp → VK → Prop
abbrev TT := St → Hp → (Bool → Hp → Prop) → Prop
abbrev TA := St → Hp → (List V → Hp → Prop) → Prop
structure Ends where
  nx : St → Hp → Prop
  rt : VK
  bk : St → Hp → Prop := fun _ _ => False
  ct : St → Hp → Prop := fun _ _ => False
abbrev TS := Ends → St → Hp → Prop
def EP (X : Cx) (pins : List (Addr × Obj)) (σ : St) (Q : VK) (u : Value) (s' : Shared) : Prop := ∃ v H', Inv X pins σ H' s' ∧ RelV v u ∧ Q v H'
def TP (X : Cx) (pins : List (Addr × Obj)) (σ : St) (Q : Bool → Hp → Prop) (b : Bool) (s' : Shared) : Prop := ∃ H', Inv X pins σ H' s' ∧ Q b H'
def AP (X : Cx) (pins : List (Addr × Obj)) (σ : St) (Q : List V → Hp → Prop) (us : List Value) (s' : Shared) : Prop := ∃ vs H', Inv X pins σ H' s' ∧ Vals vs us ∧ Q vs H'
def SP (X : Cx) (pins : List (Addr × Obj)) (D : Ends) (f : Flow) (s' : Shared) : Prop :=
  match f with
  | .next => ∃ σ' H', Inv X pins σ' H' s' ∧ D.nx σ' H'
  | .brk => ∃ σ' H', Inv X pins σ' H' s' ∧ D.bk σ' H'
  | .cont => ∃ σ' H', Inv X pins σ' H' s' ∧ D.ct σ' H'
  | .ret u => ∃ v σ' H', Inv X pins σ' H' s' ∧ RelV v u ∧ D.rt v H'
def PE (X : Cx) (e : Expr) (t : TE) : Prop :=
  ∀ (pins : List (Addr × Obj)) (s : Shared) (σ : St) (H : Hp) (Q : VK), Inv X pins σ H s → t σ H Q → wpAny (model X.prog X.w) X.A (eval e X.env) (EP X pins σ Q) X.xe s
def PT (X : Cx) (e : Expr) (t : TT) : Prop :=
  ∀ (pins : List (Addr × Obj)) (s : Shared) (σ : St) (H : Hp) (Q : Bool → Hp → Prop), Inv X pins σ H s → t σ H Q → wpAny (model X.prog X.w) X.A (isTrue e X.env (eval e X.env)) (TP X pins σ Q) X.xe s
def PW (X : Cx) (e : Expr) (t : TT) : Prop :=
  ∀ (whole : Sem Value) (pins : List (Addr × Obj)) (s : Shared) (σ : St) (H : Hp) (Q : Bool → Hp → Prop), Inv X pins σ H s → t σ H Q → wpAny (model X.prog X.w) X.A (isTrue e X.env whole) (TP X pins σ Q) X.xe s
theorem PW.pt {X : Cx} {e : Expr} {t : TT} (h : PW X e t) : PT X e t := h _
def PA (X : Cx) (es : List Expr) (t : TA) : Prop :=
  ∀ (pos : Pos) (pins : List (Addr × Obj)) (s : Shared) (σ : St) (H : Hp) (Q : List V → Hp → Prop), Inv X pins σ H s → t σ H Q → wpAny (model X.prog X.w) X.A (spliced (backTo pos (starEach es X.env))) (AP X pins σ Q) X.xe s
def PS (X : Cx) (st : Stmt) (t : TS) : Prop :=
  ∀ (pins : List (Addr × Obj)) (s : Shared) (σ : St) (H : Hp) (D : Ends), Inv X pins σ H s → t D σ H → wpAny (model X.prog X.w) X.A (exec st X.env) (SP X pins D) X.xe s
def PSs (X : Cx) (st : List Stmt) (t : TS) : Prop :=
  ∀ (pins : List (Addr × Obj)) (s : Shared) (σ : St) (H : Hp) (D : Ends), Inv X pins σ H s → t D σ H → wpAny (model X.prog X.w) X.A (execs st X.env) (SP X pins D) X.xe s
theorem thn {α : Type} {t : Sem α} {Q Q' : α → Shared → Prop} {M : Model} {A : Around} {E : Value → Shared → Prop} {s : Shared} (h : wpAny M A t Q E s) (hQ : ∀ a s, Q a s → Q' a s) : wpAny M A t Q' E s := wpAny_mono h hQ fun _ _ x => x
end L2
namespace L2
open PySem PySem.Spec PyProof.Rows
section
variable {X : Cx}
def tVar (i : Nat) : TE := fun σ H Q => ∃ v, σ[i]? = some (some v) ∧ Q v H
def tC (v : V) : TE := fun _ H Q => Q v H
theorem pe_var {i : Nat} {x : Str} {pos : Pos} (hN : X.N[i]? = some x) (hv : Vis X.env.scope x) (hd : (x == ("__debug__" : Str)) = false := by decide) (hcd : (x == ("__classdict__" : Str)) = false := by decide) : PE X (.Name x pos) (tVar i) := by
  intro pins s σ H Q I h
  obtain ⟨v, e, h⟩ := h
  obtain ⟨m, hn, hl⟩ := I.loc
  obtain ⟨u, r, l⟩ := hl i x v hN e hv
  have fin : EP X pins σ Q u s := ⟨v, H, I, r, h⟩
  rcases l with ⟨hk, hm⟩ | ⟨hk, c, hc, hcell⟩
  · exact wpAny_Name (wpAny_loadName_local I.ok.kind hk hn hm fin) hd
  · rcases hk with hk | hk
    · exact wpAny_Name (wpAny_loadName_cell I.ok.kind hk hc hcell fin) hd
    · exact wpAny_Name (wpAny_loadName_free I.ok.kind hk hc hcell fin hcd) hd
theorem pe_int {i j pos} : PE X (.Constant (.int i) j pos) (tC (.int i)) := fun _ _ _ H _ I h => wpAny_Constant_int ⟨.int i, H, I.tok _, ⟨_, rfl⟩, h⟩
theorem pe_bl {b j pos} : PE X (.Constant (.bool b) j pos) (tC (.bl b)) := fun _ _ _ H _ I h => Constant_bool ⟨.bl b, H, I, rfl, h⟩
theorem pe_non {j pos} : PE X (.Constant .none j pos) (tC .non) := fun _ _ _ H _ I h => Constant_none ⟨.non, H, I, rfl, h⟩
theorem pe_str {x j pos} : PE X (.Constant (.str x) j pos) (tC (.str x)) := fun _ _ _ H _ I h => Calls.Constant_str ⟨.str x, H, I.tok _, ⟨_, rfl⟩, h⟩
def Gl (X : Cx) (x : Str) : Prop := X.env.kindOf x = some .globalImplicit
theorem ld_glob {E : Value → Shared → Prop} {pins : List (Addr × Obj)} {s : Shared} {σ : St} {H : Hp} {x : Str} {u : Value} {pos : Pos} {Q : Value → Shared → Prop} (I : Inv X pins σ H s) (hg : Gl X x) (hm : X.mg x = some u) (h : Q u s)
    (hd : (x == ("__debug__" : Str)) = false := by decide) : wpAny (model X.prog X.w) X.A (eval (.Name x pos) X.env) Q E s :=
  Calls.Name_function_global I.ok.kind hg (Calls.loadGlobal_global (by rw [I.ok.glob]; exact I.mod.glob.keeps I.bk) hm h) hd
theorem ld_blt {E : Value → Shared → Prop} {pins : List (Addr × Obj)} {s : Shared} {σ : St} {H : Hp} {x : Str} {u : Value} {pos : Pos} {Q : Value → Shared → Prop} (I : Inv X pins σ H s) (hg : Gl X x) (hm : X.mg x = none) (hv : bootBuiltins x = some u) (h : Q u s)
    (hn : x ≠ "__name__" := by decide) (hd : (x == ("__debug__" : Str)) = false := by decide) : wpAny (model X.prog X.w) X.A (eval (.Name x pos) X.env) Q E s := by
  obtain ⟨mb, h1, h2⟩ := I.mod.blt
  exact Calls.Name_function_global I.ok.kind hg (Calls.loadGlobal_builtin (by rw [I.ok.glob]; exact I.mod.glob.keeps I.bk) hm (by rw [I.ok.blt]; exact h1.keeps I.bk) ((h2 x hn).trans hv) h) hd
theorem pe_glob {x : Str} {v : V} {u : Value} {pos : Pos} (hg : Gl X x) (hm : X.mg x = some u) (r : RelV v u) (hd : (x == ("__debug__" : Str)) = false := by decide) : PE X (.Name x pos) (tC v) :=
  fun _ _ _ H _ I h => ld_glob I hg hm ⟨v, H, I, r, h⟩ hd
theorem pe_bltn {x : Str} {v : V} {u : Value} {pos : Pos} (hg : Gl X x) (hm : X.mg x = none) (hv : bootBuiltins x = some u) (r : RelV v u) (hn : x ≠ "__name__" := by decide) (hd : (x == ("__debug__" : Str)) = false := by decide) : PE X (.Name x pos) (tC v) :=
  fun _ _ _ H _ I h => ld_blt I hg hm hv ⟨v, H, I, r, h⟩ hn hd
variable {a b : Expr} {ta tb : TE} {pos : Pos}
def tB (t : TE) : TT := fun σ H Q => t σ H fun x H1 => ∃ c, x = .bl c ∧ Q c H1
theorem pt_val {e : Expr} {t : TE} (h : PE X e t) (he : ∀ whole, isTrue e X.env whole = (do let v ← whole; standAt e.pos; holding [v] (truthy v)) := by intro _; rfl) : PT X e (tB t) := by
  intro pins s σ H Q I hw
  refine isTrue_plain (thn (h pins s σ H _ I hw) fun v s1 ⟨x, H1, I1, r1, q1⟩ => ?_) (he _)
  obtain ⟨d, rfl, q⟩ := q1
  cases r1
  exact wpAny_truthy_bool ⟨H1, I1, q⟩
variable {tA tB' : TT} {rest : List Expr}
def tAnd (t u : TT) : TT := fun σ H Q => t σ H fun c H1 => if c = true then u σ H1 Q else Q false H1
def tOr (t u : TT) : TT := fun σ H Q => t σ H fun c H1 => if c = true then Q true H1 else u σ H1 Q
def tNot (t : TT) : TT := fun σ H Q => t σ H fun c H1 => Q (!c) H1
theorem pw_and1 (ha : PT X a tA) : PW X (.BoolOp .And [a] pos) tA := by
  intro wh pins s σ H Q I h
  refine isTrue_and (thn (ha pins s σ H Q I h) fun c s1 e => ?_)
  cases c with
  | true => exact isTrue_and_nil e
  | false => exact e
theorem pw_or1 (ha : PT X a tA) : PW X (.BoolOp .Or [a] pos) tA := by
  intro wh pins s σ H Q I h
  refine isTrue_or (thn (ha pins s σ H Q I h) fun c s1 e => ?_)
  cases c with
  | false => exact isTrue_or_nil e
  | true => exact e
theorem pw_and (ha : PT X a tA) (hb : PW X (.BoolOp .And (b :: rest) pos) tB') : PW X (.BoolOp .And (a :: b :: rest) pos) (tAnd tA tB') := by
  intro wh pins s σ H Q I h
  refine isTrue_and (thn (ha pins s σ H _ I h) fun c s1 ⟨H1, I1, q1⟩ => ?_)
  cases c with
  | true => exact hb wh pins s1 σ H1 Q I1 q1
  | false => exact ⟨H1, I1, q1⟩
theorem pw_or (ha : PT X a tA) (hb : PW X (.BoolOp .Or (b :: rest) pos) tB') : PW X (.BoolOp .Or (a :: b :: rest) pos) (tOr tA tB') := by
  intro wh pins s σ H Q I h
  refine isTrue_or (thn (ha pins s σ H _ I h) fun c s1 ⟨H1, I1, q1⟩ => ?_)
  cases c with
  | true => exact ⟨H1, I1, q1⟩
  | false => exact hb wh pins s1 σ H1 Q I1 q1
theorem pt_not (ha : PT X a tA) : PT X (.UnaryOp .Not a pos) (tNot tA) := by
  intro pins s σ H Q I h
  exact isTrue_not (ha pins s σ H (fun c H1 => Q (!c) H1) I h)
def tAndV (ta tb : TE) : TE := fun σ H Q => ta σ H fun x H1 => ∃ c, x = .bl c ∧ if c = true then tb σ H1 Q else Q (.bl false) H1
theorem pe_one {op} {t : TE} (h : PE X a t) : PE X (.BoolOp op [a] pos) t := fun pins s σ H Q I hw => BoolOp_one (h pins s σ H Q I hw)
theorem pe_and (ha : PE X a ta) (hb : PE X (.BoolOp .And (b :: rest) pos) tb) : PE X (.BoolOp .And (a :: b :: rest) pos) (tAndV ta tb) := by
  intro pins s σ H Q I h
  refine BoolOp_and (thn (ha pins s σ H _ I h) fun v s1 ⟨x, H1, I1, r1, q1⟩ => ?_)
  obtain ⟨c, rfl, q1⟩ := q1
  cases r1
  refine wpAny_truthy_bool ?_
  cases c with
  | true => exact hb pins s1 σ H1 Q I1 q1
  | false => exact ⟨.bl false, H1, I1, rfl, q1⟩
def tIf (t : TT) (ta tb : TE) : TE := fun σ H Q => t σ H fun c H1 => if c = true then ta σ H1 Q else tb σ H1 Q
theorem pe_ifExp {c : Expr} (hc : PT X c tA) (ha : PE X a ta) (hb : PE X b tb) : PE X (.IfExp c a b pos) (tIf tA ta tb) := by
  intro pins s σ H Q I h
  refine wpAny_IfExp (thn (hc pins s σ H _ I h) fun d s1 ⟨H1, I1, q1⟩ => ?_)
  cases d with
  | true => exact ha pins s1 σ H1 Q I1 q1
  | false => exact hb pins s1 σ H1 Q I1 q1
end
end L2
namespace L2
open PySem PySem.Spec PyProof.Rows
def SqL (K : PySem.W.Frag) (H : Hp) (a : Addr) (xs : List V) : Prop :=
  Rd H a (.lst xs) ∨
    ∃ (o : Obj) (its : Array Value) (n : Nat), K.lookup a = some o ∧ o.cls = .type "list" ∧ o.dict = none ∧ o.data = .seq its n ∧ its.size ≤ sizeLine ∧ Vals xs its.toList
def SqT (K : PySem.W.Frag) (H : Hp) (a : Addr) (xs : List V) : Prop :=
  Rd H a (.tup xs) ∨
    ∃ (o : Obj) (its : Array Value) (n : Nat), K.lookup a = some o ∧ o.cls = .type "tuple" ∧ o.data = .seq its n ∧ its.size ≤ sizeLine ∧ Vals xs its.toList
def absV : Value → Option V
  | .none => some .non
  | .bool b => some (.bl b)
  | .int i _ => some (.int i)
  | .str x _ => some (.str x)
  | .bytes b _ => some (.byt b)
  | .float b _ => some (.flt b)
  | .ref a => some (.ref a)
  | .type n => some (.ty n)
  | _ => none
theorem RelV.abs {x : V} {u : Value} (r : RelV x u) : absV u = some x := by
  cases x with
  | non => cases r; rfl
  | bl _ => cases r; rfl
  | int _ => obtain ⟨t, rfl⟩ := r; rfl
  | str _ => obtain ⟨t, rfl⟩ := r; rfl
  | byt _ => obtain ⟨t, rfl⟩ := r; rfl
  | flt _ => obtain ⟨t, rfl⟩ := r; rfl
  | ref _ => cases r; rfl
  | ty _ => cases r; rfl
theorem RelV.inj {x y : V} {u : Value} (r : RelV x u) (q : RelV y u) : x = y := Option.some.inj (r.abs.symm.trans q.abs)
theorem Vals.inj : ∀ {xs ys : List V} {us : List Value}, Vals xs us → Vals ys us → xs = ys
  | _, _, _, .nil, .nil => rfl
  | _, _, _, .cons r t, .cons r' t' => by rw [r.inj r', Vals.inj t t']
section
variable {X : Cx} {pins : List (Addr × Obj)} {σ : St} {H : Hp} {s : Shared} {a : Addr} {xs ys : List V}
theorem SqL.of {K : PySem.W.Frag} (h : H a = some (.lst xs)) : SqL K H a xs := .inl (.inl h)
theorem SqT.of {K : PySem.W.Frag} (h : H a = some (.tup xs)) : SqT K H a xs := .inl (.inl h)
theorem Inv.list (I : Inv X pins σ H s) (h : SqL X.K H a xs) : ∃ its : List Value, Vals xs its ∧ PlainL s.heap a its.toArray ∧ xs.length ≤ sizeLine := by
  rcases h with h | ⟨o, its, n, hk, hc, hd, hs, hz, r⟩
  · obtain ⟨z, its, n, r, e⟩ := h.ok I.hok
    exact ⟨its, r, ⟨_, n, e, rfl, rfl, rfl⟩, z⟩
  · refine ⟨its.toList, r, ⟨o, n, I.kIn a o hk, hc, hd, by simpa using hs⟩, ?_⟩
    have e := r.length
    simp only [Array.length_toList] at e
    omega
theorem Inv.tuple (I : Inv X pins σ H s) (h : SqT X.K H a xs) : ∃ its : List Value, Vals xs its ∧ IsTup s.heap a its.toArray ∧ xs.length ≤ sizeLine := by
  rcases h with h | ⟨o, its, n, hk, hc, hs, hz, r⟩
  · obtain ⟨z, its, r, p⟩ := h.ok I.hok
    exact ⟨its, r, p, z⟩
  · refine ⟨its.toList, r, ⟨o, I.kIn a o hk, hc, n, by simpa using hs⟩, ?_⟩
    have e := r.length
    simp only [Array.length_toList] at e
    omega
theorem Inv.list_inj (I : Inv X pins σ H s) (h : SqL X.K H a xs) (h' : SqL X.K H a ys) : xs = ys := by
  obtain ⟨its, r, ⟨o, n, e, _, _, d⟩, _⟩ := I.list h
  obtain ⟨its', r', ⟨o', n', e', _, _, d'⟩, _⟩ := I.list h'
  rw [e] at e'; cases e'
  rw [d] at d'
  injection d' with d1 _
  have : its = its' := by simpa using congrArg Array.toList d1
  subst this
  exact r.inj r'
theorem Inv.tuple_inj (I : Inv X pins σ H s) (h : SqT X.K H a xs) (h' : SqT X.K H a ys) : xs = ys := by
  obtain ⟨its, r, ⟨o, e, _, n, d⟩, _⟩ := I.tuple h
  obtain ⟨its', r', ⟨o', e', _, n', d'⟩, _⟩ := I.tuple h'
  rw [e] at e'; cases e'
  rw [d] at d'
  injection d' with d1 _
  have : its = its' := by simpa using congrArg Array.toList d1
  subst this
  exact r.inj r'
end
abbrev Cx.wish (X : Cx) (E : Value → Shared → Prop) : Cx := { X with xe := E }
abbrev Cx.nox (X : Cx) : Cx := X.wish fun _ _ => False
theorem Cx.Ok.wish {X : Cx} (ok : X.Ok) (E : Value → Shared → Prop) : (X.wish E).Ok :=
  ⟨ok.mod, ok.kind, ok.glob, ok.blt, ok.above, ok.inj, ok.has, ok.cab, ok.hd, ok.frames, ok.stk, ok.exf, ok.bs, ok.bsz, ok.noex, ok.exfs, ok.funs, ok.frf⟩
theorem Cx.Ok.unwish {X : Cx} {E : Value → Shared → Prop} (ok : (X.wish E).Ok) : X.Ok :=
  ⟨ok.mod, ok.kind, ok.glob, ok.blt, ok.above, ok.inj, ok.has, ok.cab, ok.hd, ok.frames, ok.stk, ok.exf, ok.bs, ok.bsz, ok.noex, ok.exfs, ok.funs, ok.frf⟩
section
variable {X : Cx} {pins : List (Addr × Obj)} {σ : St} {H : Hp} {s : Shared} {E : Value → Shared → Prop}
theorem Inv.wish (I : Inv X pins σ H s) (E : Value → Shared → Prop) : Inv (X.wish E) pins σ H s := ⟨I.ok.wish E, I.os, I.bare, I.base, I.loc, I.cell, I.free, I.freeC, I.pin, I.hok, I.len, I.tk⟩
theorem Inv.unwish (I : Inv (X.wish E) pins σ H s) : Inv X pins σ H s := ⟨I.ok.unwish, I.os, I.bare, I.base, I.loc, I.cell, I.free, I.freeC, I.pin, I.hok, I.len, I.tk⟩
theorem SP.unwish {D : Ends} {f : Flow} {s' : Shared} (h : SP (X.wish E) pins D f s') : SP X pins D f s' := by
  cases f with
  | next => obtain ⟨σ', H', I, q⟩ := h; exact ⟨σ', H', I.unwish, q⟩
  | brk => obtain ⟨σ', H', I, q⟩ := h; exact ⟨σ', H', I.unwish, q⟩
  | cont => obtain ⟨σ', H', I, q⟩ := h; exact ⟨σ', H', I.unwish, q⟩
  | ret u => obtain ⟨v, σ', H', I, r, q⟩ := h; exact ⟨v, σ', H', I.unwish, r, q⟩
theorem PSs.nox {st : List Stmt} {t : TS} (h : PSs X.nox st t) : PSs X st t := fun pins s σ H D I hw =>
  wpAny_mono (h pins s σ H D (I.wish _) hw) (fun _ _ q => q.unwish) fun _ _ z => False.elim z
end
section
variable {X : Cx} {st : Stmt} {rest : List Stmt} {t u : TS} {e : Expr} {te : TE} {pos : Pos}
def tNext : TS := fun D σ H => D.nx σ H
def tSeq (t u : TS) : TS := fun D σ H => t { D with nx := u D } σ H
theorem pss_nil : PSs X [] tNext := fun _ _ σ H _ I h => wpAny_execs_nil ⟨σ, H, I, h⟩
theorem pss_cons (h1 : PS X st t) (h2 : PSs X rest u) : PSs X (st :: rest) (tSeq t u) := by
  intro pins s σ H D I h
  refine wpAny_execs_cons (thn (h1 pins s σ H { D with nx := u D } I h) fun f s1 q => ?_)
  cases f with
  | next =>
    obtain ⟨σ', H', I', q⟩ := q
    exact h2 pins s1 σ' H' D I' q
  | ret v => exact q
  | brk => exact q
  | cont => exact q
theorem pss_one (h1 : PS X st t) : PSs X [st] t := by
  intro pins s σ H D I h
  refine wpAny_execs_cons (thn (h1 pins s σ H D I h) fun f s1 q => ?_)
  cases f with
  | next => exact wpAny_execs_nil q
  | ret v => exact q
  | brk => exact q
  | cont => exact q
theorem Inv.quiet {pins : List (Addr × Obj)} {σ : St} {H : Hp} {s : Shared} (I : Inv X pins σ H s) : interactive X.env = false := by simp [interactive, I.ok.kind]
def tDrop (te : TE) : TS := fun D σ H => te σ H fun _ H1 => D.nx σ H1
theorem ps_expr (he : PE X e te) (hs : swapsWith e none pos.line X.env = pure false := by rfl) : PS X (.Expr e pos) (tDrop te) := by
  intro pins s σ H D I h
  exact wpAny_Expr_any (thn (he pins s σ H _ I h) fun v s1 ⟨x, H1, I1, r1, q1⟩ => ⟨σ, H1, I1, q1⟩) I.quiet hs
def tRet (te : TE) : TS := fun D σ H => te σ H D.rt
theorem ps_ret (he : PE X e te) : PS X (.Return (some e) pos) (tRet te) := by
  intro pins s σ H D I h
  exact wpAny_Return_some (thn (he pins s σ H _ I h) fun v s1 ⟨x, H1, I1, r1, q1⟩ => ⟨x, σ, H1, I1, r1, q1⟩)
def tIfS (c : TT) (t u : TS) : TS := fun D σ H => c σ H fun b H1 => if b = true then t D σ H1 else u D σ H1
theorem ps_if {c : Expr} {a b : List Stmt} {tc : TT} (hc : PT X c tc) (ha : PSs X a t) (hb : PSs X b u) : PS X (.If c a b pos) (tIfS tc t u) := by
  intro pins s σ H D I h
  refine wpAny_If (thn (hc pins s σ H _ I h) fun d s1 ⟨H1, I1, q1⟩ => ?_)
  cases d with
  | true => exact ha pins s1 σ H1 D I1 q1
  | false => exact hb pins s1 σ H1 D I1 q1
def tNever : TS := fun _ _ _ => False
theorem ps_never : PS X st tNever := fun _ _ _ _ _ _ h => h.elim
end
abbrev TG := V → St → Hp → (St → Hp → Prop) → Prop
abbrev TGs := List V → St → Hp → (St → Hp → Prop) → Prop
def PG (X : Cx) (target : Expr) (t : TG) : Prop :=
  ∀ (pins : List (Addr × Obj)) (s : Shared) (σ : St) (H : Hp) (v : V) (u : Value) (Q : St → Hp → Prop), Inv X pins σ H s → RelV v u → t v σ H Q →
    wpAny (model X.prog X.w) X.A (assign target X.env u) (fun _ s' => ∃ σ' H', Inv X pins σ' H' s' ∧ Q σ' H') X.xe s
def PGs (X : Cx) (ts : List Expr) (t : TGs) : Prop :=
  ∀ (pins : List (Addr × Obj)) (s : Shared) (σ : St) (H : Hp) (vs : List V) (us : List Value) (Q : St → Hp → Prop), Inv X pins σ H s → Vals vs us → t vs σ H Q →
    wpAny (model X.prog X.w) X.A (assignInOrder ((assignEach ts X.env).map (·.2)) us) (fun _ s' => ∃ σ' H', Inv X pins σ' H' s' ∧ Q σ' H') X.xe s
abbrev TSet := V → V → V → Hp → (Hp → Prop) → Prop
def PSet (X : Cx) (t : TSet) : Prop :=
  ∀ (pins : List (Addr × Obj)) (s : Shared) (σ : St) (H : Hp) (o i v : V) (ov iv u : Value) (Q : Hp → Prop), Inv X pins σ H s → RelV o ov → RelV i iv → RelV v u → t o i v H Q →
    wpAny (model X.prog X.w) X.A (setItem ov iv u) (fun _ s' => ∃ H', Inv X pins σ H' s' ∧ Q H') X.xe s
section
variable {X : Cx} {pos : Pos}
def gName (i : Nat) : TG := fun v σ H Q => Q (σ.set i (some v)) H
theorem pg_name {i : Nat} {x : Str} (hN : X.N.Nodup) (hi : X.N[i]? = some x) (hx : Loc X.env.scope x) (hf : X.fn x = true ∨ X.env.scope.names.lookup x = some .local := by first | exact .inl rfl | exact .inr rfl | assumption) : PG X (.Name x pos) (gName i) := by
  intro pins s σ H v u Q I r h
  exact wpAny_assign_Name (store_ok I hN hi hx r (fun s' I' => ⟨_, H, I', h⟩) hf)
def gNil : TGs := fun vs σ H Q => vs = [] ∧ Q σ H
def gCons (t : TG) (u : TGs) : TGs := fun vs σ H Q => ∃ v r, vs = v :: r ∧ t v σ H fun σ' H' => u r σ' H' Q
theorem pgs_nil : PGs X [] gNil := by
  intro pins s σ H vs us Q I r h
  obtain ⟨e, h⟩ := h
  subst e
  cases r
  exact assignInOrder_nil ⟨σ, H, I, h⟩
theorem pgs_cons {e : Expr} {es : List Expr} {t : TG} {u : TGs} (h1 : PG X e t) (h2 : PGs X es u)
    (hs : (assignEach (e :: es) X.env).map (·.2) = assign e X.env :: (assignEach es X.env).map (·.2) := by rfl) : PGs X (e :: es) (gCons t u) := by
  intro pins s σ H vs us Q I r h
  obtain ⟨v, vr, e1, h⟩ := h
  subst e1
  cases r with
  | cons r rr =>
    rw [hs]
    refine assignInOrder_cons (thn (h1 pins s σ H _ _ _ I r h) fun _ s1 ⟨σ1, H1, I1, q1⟩ => ?_)
    exact h2 pins s1 σ1 H1 _ _ Q I1 rr q1
def gTup (K : PySem.W.Frag) (n : Nat) (t : TGs) : TG := fun v σ H Q => ∃ a xs, v = .ref a ∧ SqT K H a xs ∧ xs.length = n ∧ t xs σ H Q
theorem pg_tup {es : List Expr} {k : Nat} {t : TGs} {n : Nat} (hc : X.calm = true) (h : PGs X es t)
    (hn : (assignEach es X.env).length = n := by rfl) (hst : (assignEach es X.env).findIdx? (·.1) = none := by rfl) : PG X (.Tuple es k pos) (gTup X.K n t) := by
  intro pins s σ H v u Q I r hw
  obtain ⟨a, xs, e1, hq, hl, hw⟩ := hw
  subst e1
  cases r
  obtain ⟨its, rv, ht, hz⟩ := I.tuple hq
  refine assign_Tuple_tuple (I.ok.hd hc) ht (by simp [hn, ← hl, rv.length]) hst fun h' hx => ?_
  have I1 : Inv X pins σ H { s with heap := h' } := I.kept (t' := s.toks) fun b o e => hx b o (Nat.ne_of_lt (Heap.lt_size e)) e
  exact h pins _ σ H xs _ Q I1 (by simpa using rv) hw
def gSub (to ti : TE) (t : TSet) : TG := fun v σ H Q => to σ H fun o H1 => ti σ H1 fun i H2 => t o i v H2 fun H3 => Q σ H3
theorem pg_sub {o i : Expr} {to ti : TE} {t : TSet} (ho : PE X o to) (hi : PE X i ti) (hs : PSet X t)
    (ha : ∀ v, assign (.Subscript o i pos) X.env v = (do
      let ov ← holding [v] (eval o X.env)
      let iv ← holding [v, ov] (eval i X.env)
      standAt pos
      holding [v, ov, iv] (setItem ov iv v)
      release [v, ov, iv] []) := by intro _; rfl) : PG X (.Subscript o i pos) (gSub to ti t) := by
  intro pins s σ H v u Q I r h
  rw [ha]
  refine wpAny_bind (wpAny_holding (thn (ho pins s σ H _ I h) fun ov s1 ⟨x, H1, I1, r1, q1⟩ => ?_))
  refine wpAny_bind (wpAny_holding (thn (hi pins s1 σ H1 _ I1 q1) fun iv s2 ⟨y, H2, I2, r2, q2⟩ => ?_))
  refine wpAny_bind (wpAny_standAt (wpAny_bind (wpAny_holding (thn (hs pins s2 σ H2 x y v ov iv u _ I2 r1 r2 r q2) fun _ s3 ⟨H3, I3, q3⟩ => ?_))))
  exact wpAny_release ⟨σ, H3, I3, q3⟩
def tAsg (te : TE) (g : TG) : TS := fun D σ H => te σ H fun x H1 => g x σ H1 D.nx
theorem ps_asg {tg e : Expr} {te : TE} {g : TG} (he : PE X e te) (hg : PG X tg g) (hs : swapsWithSole [tg] e pos.line X.env = pure false := by rfl) (hw : swappedStores [tg] e X.env = pure none := by rfl)
    (h1 : (assignEach [tg] X.env).map (·.2) = [assign tg X.env] := by rfl) : PS X (.Assign [tg] e pos) (tAsg te g) := by
  intro pins s σ H D I h
  refine wpAny_Assign_stores (thn (he pins s σ H _ I h) fun v s1 ⟨x, H1, I1, r1, q1⟩ => ?_) hs hw
  rw [h1]
  exact thn (hg pins s1 σ H1 x v _ I1 r1 q1) fun _ s2 q => q
theorem ps_set {i : Nat} {x : Str} {e : Expr} {te : TE} {pos' : Pos} (hN : X.N.Nodup) (hi : X.N[i]? = some x) (hx : Loc X.env.scope x) (he : PE X e te) (hs : swapsWith e (some (.Name x pos')) pos.line X.env = pure false := by rfl) (hf : X.fn x = true ∨ X.env.scope.names.lookup x = some .local := by first | exact .inl rfl | exact .inr rfl | assumption) :
    PS X (.Assign [.Name x pos'] e pos) (tAsg te (gName i)) := by
  intro pins s σ H D I h
  refine wpAny_Assign_Name (thn (he pins s σ H _ I h) fun v s1 ⟨y, H1, I1, r1, q1⟩ => ?_) hs
  exact store_ok I1 hN hi hx r1 (fun s2 I2 => ⟨_, H1, I2, q1⟩) hf
end
section
variable {X : Cx} {pos : Pos}
def tWhile (c : TT) (tb : TS) : TS := fun D σ H => ∃ W : Nat → St → Hp → Prop, (∃ m, W m σ H) ∧ ∀ m σ H, W m σ H →
  c σ H fun b H1 => if b = true then ∃ N : St → Hp → Prop, (∀ σ' H', N σ' H' → ∃ m', m' < m ∧ W m' σ' H') ∧ tb { D with nx := N, ct := N, bk := D.nx } σ H1 else D.nx σ H1
theorem ps_while {c : Expr} {body : List Stmt} {tc : TT} {tb : TS} (hp : PassesOwn (model X.prog X.w) X.A X.env X.xe) (hc : PT X c tc) (hb : PSs X body tb) : PS X (.While c body [] pos) (tWhile tc tb) := by
  intro pins s σ H D I h
  obtain ⟨W, ⟨m0, w0⟩, turn⟩ := h
  refine wpAny_While (codeAny_whileLoop (fun n s' => ∃ σ' H', Inv X pins σ' H' s' ∧ W n σ' H') ?_ m0 ⟨σ, H, I, w0⟩)
  rintro n s1 ⟨σ1, H1, I1, w1⟩
  refine wpAny_passesOwn hp (thn (hc pins s1 σ1 H1 _ I1 (turn n σ1 H1 w1)) fun b s2 ⟨H2, I2, q2⟩ => ?_)
  cases b with
  | true =>
    obtain ⟨N, hN, q2⟩ := q2
    rw [if_pos rfl]
    refine wpAny_passesOwn hp (thn (hb pins s2 σ1 H2 _ I2 q2) fun f s3 q3 => ?_)
    cases f with
    | next =>
      obtain ⟨σ3, H3, I3, n3⟩ := q3
      obtain ⟨m', hm, w3⟩ := hN σ3 H3 n3
      exact ⟨m', hm, σ3, H3, I3, w3⟩
    | cont =>
      obtain ⟨σ3, H3, I3, n3⟩ := q3
      obtain ⟨m', hm, w3⟩ := hN σ3 H3 n3
      exact ⟨m', hm, σ3, H3, I3, w3⟩
    | brk => exact q3
    | ret v => exact q3
  | false =>
    rw [if_neg Bool.false_ne_true]
    exact wpAny_execs_nil ⟨σ1, H2, I2, q2⟩
end
structure It where
  go : Nat → Hp → Prop
  yld : Nat → Hp → V → Hp → Prop
  stop : Nat → Hp → Prop
def FpOk (X : Cx) (pins : List (Addr × Obj)) (H : Hp) (b : Addr) : Prop :=
  H b = none ∧ b ≠ X.env.locals ∧ b ∉ X.fs ∧ (b ∈ X.ex ∨ X.s₀.heap.objs.size ≤ b) ∧ (∀ x c, X.env.cells.lookup x = some c → c ≠ b) ∧ ∀ p ∈ X.pn ++ pins, p.1 ≠ b
theorem Inv.fpOk {X : Cx} {pins : List (Addr × Obj)} {σ : St} {H H' : Hp} {s : Shared} {b : Addr} (I : Inv X pins σ H s) (hb : s.heap.objs.size ≤ b) (hn : H' b = none) : FpOk X pins H' b := by
  refine ⟨hn, Nat.ne_of_gt (Nat.lt_of_lt_of_le I.lt hb), I.nofs hb, .inr (Nat.le_trans I.sz hb), fun x c e z => ?_, fun p hp z => ?_⟩
  · obtain ⟨v, q⟩ := I.cell x c e
    exact absurd (Nat.lt_of_lt_of_le q.lt (by rw [z]; exact hb)) (Nat.lt_irrefl _)
  · exact absurd (Nat.lt_of_lt_of_le (Heap.lt_size (I.pin p hp).1) (by rw [z]; exact hb)) (Nat.lt_irrefl _)
structure Turn (P : Program) (w : World) (K : PySem.W.Frag) (tg : Expr) (J : It) (fp : List Addr) (it : Addr) (tn : Nat → Heap → Prop) : Prop where
  mem : it ∈ fp
  obj : ∀ i h, tn i h → ∀ b ∈ fp, ∃ o, h.get? b = some o ∧ ∀ v, o.data ≠ .cell v
  keep : ∀ i h h', tn i h → (∀ b ∈ fp, ∀ o, h.get? b = some o → h'.get? b = some o) → tn i h'
  item : ∀ (X : Cx), X.prog = P → X.w = w → X.K = K → X.calm = true → ∀ (i : Nat) (pins : List (Addr × Obj)) (s : Shared) (σ : St) (H : Hp) (E : Value → Shared → Prop), Inv X pins σ H s → (∀ b ∈ fp, FpOk X pins H b) → tn i s.heap → J.go i H →
    wpAny (model P w) X.A (pyNext (.ref it)) (fun r s1 => ∃ u, r = some u ∧
      wpAny (model P w) X.A (letOwnedTupleGo tg (.ref it) u) (fun _ s2 => ∃ x H', Inv X pins σ H' s2 ∧ RelV x u ∧ J.yld i H x H' ∧ tn (i + 1) s2.heap ∧ ∀ b ∈ fp, H' b = none) E s1) E s
  done : ∀ (X : Cx), X.prog = P → X.w = w → X.K = K → X.calm = true → ∀ (i : Nat) (pins : List (Addr × Obj)) (s : Shared) (σ : St) (H : Hp) (E : Value → Shared → Prop), Inv X pins σ H s → (∀ b ∈ fp, FpOk X pins H b) → tn i s.heap → J.stop i H →
    wpAny (model P w) X.A (pyNext (.ref it)) (fun r s1 => r = none ∧ Inv X pins σ H s1) E s
  self : ∀ (A : Around) (i : Nat) (s : Shared) (Q : Value → Shared → Prop) (E : Value → Shared → Prop), tn i s.heap → Q (.ref it) s → wpAny (model P w) A (pyIter (.ref it)) Q E s
abbrev TI := St → Hp → (It → Hp → Prop) → Prop
def PIE (X : Cx) (pins : List (Addr × Obj)) (σ : St) (tg : Expr) (R : It → Hp → Prop) (itv : Value) (s2 : Shared) : Prop :=
  ∃ (it : Addr) (fp : List Addr) (tn : Nat → Heap → Prop) (J : It) (H' : Hp), itv = .ref it ∧ Inv X pins σ H' s2 ∧ Turn X.prog X.w X.K tg J fp it tn ∧ tn 0 s2.heap ∧ (∀ b ∈ fp, FpOk X pins H' b) ∧ R J H'
def PI (X : Cx) (tg iter : Expr) (wi : TI) : Prop :=
  ∀ (pins : List (Addr × Obj)) (s : Shared) (σ : St) (H : Hp) (R : It → Hp → Prop), Inv X pins σ H s → wi σ H R →
    wpAny (model X.prog X.w) X.A (eval iter X.env) (fun v s1 => wpAny (model X.prog X.w) X.A (pyIter v) (PIE X pins σ tg R) X.xe s1) X.xe s
theorem go_of {M : Model} {A : Around} {E : Value → Shared → Prop} {s : Shared} {tg : Expr} {it : Addr} {u : Value} {o : Obj} {n : String} {vs : Array Value} {Q : Unit → Shared → Prop} (ho : s.heap.get? it = some o) (hc : o.cls = .type n) (hd : o.data = .fields vs)
    (hn : ["enumerate", "zip", "dict_itemiterator", "dict_reverseitemiterator", "odict_iterator", "itertools.zip_longest", "itertools.pairwise"].contains n = false) (hQ : Q () s) : wpAny M A (letOwnedTupleGo tg (.ref it) u) Q E s := by
  unfold letOwnedTupleGo
  cases tg <;> first
    | exact wpAny_pure hQ
    | (cases u <;> first
        | exact wpAny_pure hQ
        | (refine wpAny_bind (wpAny_load ho ?_)
           rw [hc, hd]
           show wpAny M A (if (["enumerate", "zip", "dict_itemiterator", "dict_reverseitemiterator", "odict_iterator", "itertools.zip_longest", "itertools.pairwise"].contains n && vs[0]? == some (rawInt _)) = true then _ else _) Q E s
           rw [if_neg (by intro h; rw [hn, Bool.false_and] at h; cases h)]
           exact wpAny_pure hQ))
def Itl (K : PySem.W.Frag) (a : Addr) : It :=
  ⟨fun i H => ∃ xs x, SqL K H a xs ∧ xs[i]? = some x, fun i H x H' => H' = H ∧ ∀ xs, SqL K H a xs → xs[i]? = some x, fun i H => ∃ xs, SqL K H a xs ∧ xs.length ≤ i⟩
def Itt (K : PySem.W.Frag) (a : Addr) : It :=
  ⟨fun i H => ∃ xs x, SqT K H a xs ∧ xs[i]? = some x, fun i H x H' => H' = H ∧ ∀ xs, SqT K H a xs → xs[i]? = some x, fun i H => ∃ xs, SqT K H a xs ∧ xs.length ≤ i⟩
def Itr (lo : Int) (n : Nat) : It := ⟨fun i _ => i < n, fun i H x H' => H' = H ∧ x = .int (lo + i), fun i _ => n ≤ i⟩
theorem turn_list {P : Program} {w : World} {K : PySem.W.Frag} {tg : Expr} (a it : Addr) : Turn P w K tg (Itl K a) [it] it (fun i h => h.IsListIter it a i) where
  mem := by simp
  obj := fun i h st b hb => by
    have e : b = it := by simpa using hb
    subst e
    obtain ⟨o, e, c, d⟩ := st
    exact ⟨o, e, fun v z => by rw [d] at z; cases z⟩
  keep := fun i h h' st k => st.at fun o e => k it (by simp) o e
  item := by
    intro X hP hw hK hc i pins s σ H E I hf st hg
    subst hP hw hK
    obtain ⟨xs, x, hq, hx⟩ := hg
    obtain ⟨its, rv, p, hz⟩ := I.list hq
    obtain ⟨u, hu, ru⟩ := rv.get hx
    obtain ⟨f0, f1, f2, f3, f4, f5⟩ := hf it (by simp)
    refine wpAny_pyNext_list_item st p.isList (x := u) (by simpa using hu) fun h' st' sb => ?_
    have I1 : Inv X pins σ H { s with heap := h' } := I.turned (t' := s.toks) (fun b o hb e => (sb.2 b hb).trans e) f0 f1 f3 f4 f5
    obtain ⟨o, e, c, d⟩ := id st'
    exact ⟨u, rfl, go_of (s := { s with heap := h' }) e c d (by decide) ⟨x, H, I1, ru, ⟨rfl, fun ys hy => by rw [I.list_inj hy hq]; exact hx⟩, st', fun b hb => (hf b hb).1⟩⟩
  done := by
    intro X hP hw hK hc i pins s σ H E I hf st hg
    subst hP hw hK
    obtain ⟨xs, hq, hx⟩ := hg
    obtain ⟨its, rv, p, hz⟩ := I.list hq
    obtain ⟨f0, f1, f2, f3, f4, f5⟩ := hf it (by simp)
    have hl := rv.length
    exact wpAny_pyNext_list_end (I.ok.hd hc) st p.isList (by simp; omega) fun h' eb => ⟨rfl, I.turned (t' := s.toks) (fun b o hb e => eb b o hb e) f0 f1 f3 f4 f5⟩
  self := fun _ _ _ _ _ st h => wpAny_pyIter_listiter st h
theorem turn_tuple {P : Program} {w : World} {K : PySem.W.Frag} {tg : Expr} (a it : Addr) : Turn P w K tg (Itt K a) [it] it (fun i h => h.IsTupleIter it a i) where
  mem := by simp
  obj := fun i h st b hb => by
    have e : b = it := by simpa using hb
    subst e
    obtain ⟨o, e, c, d⟩ := st
    exact ⟨o, e, fun v z => by rw [d] at z; cases z⟩
  keep := fun i h h' st k => st.at fun o e => k it (by simp) o e
  item := by
    intro X hP hw hK hc i pins s σ H E I hf st hg
    subst hP hw hK
    obtain ⟨xs, x, hq, hx⟩ := hg
    obtain ⟨its, rv, p, hz⟩ := I.tuple hq
    obtain ⟨u, hu, ru⟩ := rv.get hx
    obtain ⟨f0, f1, f2, f3, f4, f5⟩ := hf it (by simp)
    refine wpAny_pyNext_tuple_item st (show s.heap.IsTuple a its.toArray from p) (x := u) (by simpa using hu) fun h' st' sb => ?_
    have I1 : Inv X pins σ H { s with heap := h' } := I.turned (t' := s.toks) (fun b o hb e => (sb.2 b hb).trans e) f0 f1 f3 f4 f5
    obtain ⟨o, e, c, d⟩ := id st'
    exact ⟨u, rfl, go_of (s := { s with heap := h' }) e c d (by decide) ⟨x, H, I1, ru, ⟨rfl, fun ys hy => by rw [I.tuple_inj hy hq]; exact hx⟩, st', fun b hb => (hf b hb).1⟩⟩
  done := by
    intro X hP hw hK hc i pins s σ H E I hf st hg
    subst hP hw hK
    obtain ⟨xs, hq, hx⟩ := hg
    obtain ⟨its, rv, p, hz⟩ := I.tuple hq
    obtain ⟨f0, f1, f2, f3, f4, f5⟩ := hf it (by simp)
    have hl := rv.length
    exact wpAny_pyNext_tuple_end (I.ok.hd hc) st (show s.heap.IsTuple a its.toArray from p) (by simp; omega) fun h' eb => ⟨rfl, I.turned (t' := s.toks) (fun b o hb e => eb b o hb e) f0 f1 f3 f4 f5⟩
  self := fun _ _ _ _ _ st h => wpAny_pyIter_tupleiter st h
theorem turn_range {P : Program} {w : World} {K : PySem.W.Frag} {tg : Expr} (it : Addr) (lo : Int) (n : Nat) : Turn P w K tg (Itr lo n) [it] it (fun i h => IsRangeIter h it (lo + (i : Nat) * 1) ((n : Int) - (i : Nat)) 1) where
  mem := by simp
  obj := fun i h st b hb => by
    have e : b = it := by simpa using hb
    subst e
    exact ⟨_, st, fun v z => by
      have z' : Data.fields _ = Data.cell v := z
      cases z'⟩
  keep := fun i h h' st k => k it (by simp) _ st
  item := by
    intro X hP hw hK hc i pins s σ H E I hf st hg
    subst hP hw hK
    obtain ⟨f0, f1, f2, f3, f4, f5⟩ := hf it (by simp)
    have W := Walks.range (prog := X.prog) (w := X.w) (I.ok.hd hc) it lo 1 n
    refine wpAny_with_toks (n := 1) I.tk (W.item i s _ _ hg st fun v h' tk hv st' kk ht => ?_)
    have ht : 0 < tk := ht
    obtain ⟨t, rfl⟩ := hv
    have I1 : Inv X pins σ H { s with heap := h', toks := tk } := I.turned (fun b o hb e => kk b o (by simpa using hb) e) f0 f1 f3 f4 f5
    refine ⟨_, rfl, go_of (s := { s with heap := h', toks := tk }) (n := "range_iterator") st' rfl rfl (by decide) ⟨.int (lo + i), H, I1, ⟨t, ?_⟩, ⟨rfl, rfl⟩, st', fun b hb => (hf b hb).1⟩⟩
    rw [Int.mul_one]
  done := by
    intro X hP hw hK hc i pins s σ H E I hf st hg
    subst hP hw hK
    obtain ⟨f0, f1, f2, f3, f4, f5⟩ := hf it (by simp)
    exact wpAny_pyNext_range_end (I.ok.hd hc) st (by have : n ≤ i := hg; omega) fun h' eb => ⟨rfl, I.turned (t' := s.toks) (fun b o hb e => eb b o hb e) f0 f1 f3 f4 f5⟩
  self := fun _ _ _ _ _ st h => wpAny_pyIter_rangeiter st h
end L2
namespace L2
open PySem PySem.Spec PyProof.Rows
section
variable {X : Cx} {tg : Expr}
theorem range_it {pins : List (Addr × Obj)} {σ : St} {H : Hp} {s : Shared} {R : It → Hp → Prop} {E : Value → Shared → Prop} {lo hi : Int} {t u v : Tok} {tk : Nat} (I : Inv X pins σ H s) (h1 : -(2 ^ 62) ≤ lo) (h2 : lo < 2 ^ 62) (h3 : -(2 ^ 62) ≤ hi) (h4 : hi < 2 ^ 62)
    (q : R (Itr lo (hi - lo).toNat) H) (ht : 0 < tk := by first | exact Nat.succ_pos _ | assumption | exact Inv.tk ‹_› | omega) : wpAny (model X.prog X.w) X.A (pyIter (.ref s.heap.objs.size)) (PIE X pins σ tg R) E { s with heap := s.heap.push { cls := .type "range", data := .fields #[.int lo t, .int hi u, .int 1 v] }, toks := tk } := by
  refine wpAny_pyIter_range (IsRange.new ..) (small_one h1 h2 h3 h4) ?_
  have I1 : Inv X pins σ H { s with heap := s.heap.push { cls := .type "range", data := .fields #[.int lo t, .int hi u, .int 1 v] }, toks := tk } := I.kept fun b o e => Heap.get?_push_of_some _ e
  refine ⟨(s.heap.push { cls := .type "range", data := .fields #[.int lo t, .int hi u, .int 1 v] }).objs.size, [(s.heap.push { cls := .type "range", data := .fields #[.int lo t, .int hi u, .int 1 v] }).objs.size], _, _, H, rfl,
    I1.kept (t' := tk) fun b o e => Heap.get?_push_of_some _ e, turn_range _ lo (hi - lo).toNat, ?_, fun b hb => ?_, q⟩
  · have e1 : lo + ((0 : Nat) : Int) * 1 = lo := by simp
    have e2 : (((hi - lo).toNat : Nat) : Int) - ((0 : Nat) : Int) = Builtin.Range.rangeSize lo hi 1 := by rw [rangeSize_one]; split <;> omega
    show IsRangeIter _ _ (lo + ((0 : Nat) : Int) * 1) ((((hi - lo).toNat : Nat) : Int) - ((0 : Nat) : Int)) 1
    rw [e1, e2]
    exact Heap.get?_push_size _ rfl
  · have e : b = (s.heap.push { cls := .type "range", data := .fields #[.int lo t, .int hi u, .int 1 v] }).objs.size := by simpa using hb
    subst e
    exact I1.fpOk (Nat.le_refl _) (I1.hok.fresh (Nat.le_refl _))
def iRng1 (ta : TA) : TI := fun σ H R => ta σ H fun vs H1 => ∃ j : Int, vs = [.int j] ∧ -(2 ^ 62) ≤ j ∧ j < 2 ^ 62 ∧ R (Itr 0 j.toNat) H1
def iRng2 (ta : TA) : TI := fun σ H R => ta σ H fun vs H1 => ∃ i j : Int, vs = [.int i, .int j] ∧ (-(2 ^ 62) ≤ i ∧ i < 2 ^ 62 ∧ -(2 ^ 62) ≤ j ∧ j < 2 ^ 62) ∧ R (Itr i (j - i).toNat) H1
theorem pi_range1 {a : Expr} {ta : TA} {p pos : Pos} (hg : Gl X "range") (hm : X.mg "range" = none) (ha : PA X [a] ta) (hs : starEach [a] X.env = [(false, eval a X.env)] := by rfl) : PI X tg (.Call (.Name "range" p) [a] [] pos) (iRng1 ta) := by
  intro pins s σ H R I h
  refine Call_ (ld_blt I hg hm boot_range (PyProof.Rows.callWith_type1 (thn (ha pos pins s σ H _ I h) fun us s1 ⟨vs, H1, I1, r1, q1⟩ => ?_) hs rfl))
  obtain ⟨j, e, q1, q2, q⟩ := q1
  subst e
  cases r1 with
  | cons r rr =>
    cases rr
    obtain ⟨t, rfl⟩ := r
    exact call_range_1 (range_it I1 (by omega) (by omega) q1 q2 (by simpa using q))
theorem pi_range2 {a b : Expr} {ta : TA} {p pos : Pos} (hg : Gl X "range") (hm : X.mg "range" = none) (ha : PA X [a, b] ta) (hs : starEach [a, b] X.env = [(false, eval a X.env), (false, eval b X.env)] := by rfl) (hs2 : starEach [b] X.env = [(false, eval b X.env)] := by rfl) :
    PI X tg (.Call (.Name "range" p) [a, b] [] pos) (iRng2 ta) := by
  intro pins s σ H R I h
  refine Call_ (ld_blt I hg hm boot_range (PyProof.Rows.callWith_type1 (thn (ha pos pins s σ H _ I h) fun us s1 ⟨vs, H1, I1, r1, q1⟩ => ?_) (by rw [hs, hs2]) (by rw [hs2]; rfl)))
  obtain ⟨i, j, e, ⟨q1, q2, q3, q4⟩, q⟩ := q1
  subst e
  cases r1 with
  | cons r rr =>
    cases rr with
    | cons r' rr =>
      cases rr
      obtain ⟨t, rfl⟩ := r
      obtain ⟨t', rfl⟩ := r'
      exact call_range_2 (range_it I1 q1 q2 q3 q4 q)
def tFor (wi : TI) (g : TG) (tb : TS) : TS := fun D σ H => wi σ H fun J H1 => ∃ W : Nat → Nat → St → Hp → Prop, (∃ m, W 0 m σ H1) ∧ ∀ i m σ H, W i m σ H →
  (J.stop i H ∧ D.nx σ H) ∨ (J.go i H ∧ ∃ N : St → Hp → Prop, (∀ σ' H', N σ' H' → ∃ m', m' < m ∧ W (i + 1) m' σ' H') ∧ ∀ x H', J.yld i H x H' → g x σ H' fun σ2 H2 => tb { D with nx := N, ct := N, bk := D.nx } σ2 H2)
def pinsAt (fp : List Addr) (h : Heap) : List (Addr × Obj) := fp.filterMap fun b => (h.get? b).map fun o => (b, o)
theorem mem_pinsAt {fp : List Addr} {h : Heap} {b : Addr} {o : Obj} (hb : b ∈ fp) (e : h.get? b = some o) : (b, o) ∈ pinsAt fp h := List.mem_filterMap.mpr ⟨b, hb, by rw [e]; rfl⟩
theorem of_pinsAt {fp : List Addr} {h : Heap} {p : Addr × Obj} (hp : p ∈ pinsAt fp h) : p.1 ∈ fp ∧ h.get? p.1 = some p.2 := by
  obtain ⟨b, hb, e⟩ := List.mem_filterMap.mp hp
  cases q : h.get? b with
  | none => rw [q] at e; cases e
  | some o =>
    rw [q] at e
    have e' : (b, o) = p := Option.some.inj e
    subst e'
    exact ⟨hb, q⟩
theorem Inv.pinned {pins : List (Addr × Obj)} {σ : St} {H : Hp} {s : Shared} {fp : List Addr} (I : Inv X pins σ H s) (hf : ∀ b ∈ fp, FpOk X pins H b) (ho : ∀ b ∈ fp, ∃ o, s.heap.get? b = some o ∧ ∀ v, o.data ≠ .cell v) : Inv X (pins ++ pinsAt fp s.heap) σ H s :=
  I.pins_of fun p hp => (List.mem_append.mp hp).elim (fun z => I.pin p (List.mem_append_right _ z)) fun z => by
    obtain ⟨hb, e⟩ := of_pinsAt z
    obtain ⟨f0, f1, f2, _⟩ := hf p.1 hb
    obtain ⟨o, e', d⟩ := ho p.1 hb
    rw [e] at e'; cases e'
    exact ⟨e, f0, f1, f2, d⟩
theorem Inv.unpinned {pins pl : List (Addr × Obj)} {σ : St} {H : Hp} {s : Shared} (I : Inv X (pins ++ pl) σ H s) : Inv X pins σ H s := I.pins_of fun p hp => I.pin p (List.mem_append_right _ (List.mem_append_left _ hp))
theorem ps_for {iter : Expr} {body : List Stmt} {wi : TI} {g : TG} {tb : TS} {pos : Pos} (hp : PassesOwn (model X.prog X.w) X.A X.env X.xe) (hc : X.calm = true) (hi : PI X tg iter wi) (hg : PG X tg g) (hb : PSs X body tb)
    (hs : ∀ x, foldedSetIterable iter X.env x = pure x := by intro _; rfl) : PS X (.For tg iter body [] pos) (tFor wi g tb) := by
  intro pins s σ H D I h
  refine wpAny_For (thn (hi pins s σ H _ I h) fun v s1 h1 => thn h1 fun itv s2 h2 => ?_) hs
  obtain ⟨it, fp, tn, J, H2, e, I2, T, st2, f2, W, ⟨m0, w0⟩, turn⟩ := h2
  subst e
  have stat : ∀ {H' : Hp}, (∀ b ∈ fp, H' b = none) → ∀ b ∈ fp, FpOk X pins H' b := fun hn b hb => ⟨hn b hb, (f2 b hb).2⟩
  refine codeAny_forLoop_any (fun n s' => ∃ i σ' H', Inv X pins σ' H' s' ∧ tn i s'.heap ∧ (∀ b ∈ fp, H' b = none) ∧ W i n σ' H') ?_ m0 ⟨0, σ, H2, I2, st2, fun b hb => (f2 b hb).1, w0⟩
  rintro n s3 ⟨i, σ3, H3, I3, st3, fr3, w3⟩
  rcases turn i n σ3 H3 w3 with ⟨stop, qn⟩ | ⟨go, N, hN, step⟩
  · refine wpAny_passesOwn hp (thn (T.done X rfl rfl rfl hc i pins s3 σ3 H3 X.xe I3 (stat fr3) st3 stop) fun r s4 ⟨hr, I4⟩ => ?_)
    subst hr
    exact wpAny_execs_nil ⟨σ3, H3, I4, qn⟩
  · refine wpAny_passesOwn hp (thn (T.item X rfl rfl rfl hc i pins s3 σ3 H3 X.xe I3 (stat fr3) st3 go) fun r s4 ⟨u, hr, h4⟩ => ?_)
    subst hr
    refine wpAny_passesOwn hp (thn h4 fun _ s5 ⟨x, H5, I5, r5, y5, st5, fr5⟩ => ?_)
    have I5' := I5.pinned (stat fr5) (T.obj _ _ st5)
    refine wpAny_passesOwn hp (thn (hg _ s5 σ3 H5 x u _ I5' r5 (step x H5 y5)) fun _ s6 ⟨σ6, H6, I6, q6⟩ => ?_)
    refine wpAny_passesOwn hp (thn (hb _ s6 σ6 H6 _ I6 q6) fun f s7 q7 => ?_)
    have again : ∀ {σ7 : St} {H7 : Hp}, Inv X (pins ++ pinsAt fp s5.heap) σ7 H7 s7 → N σ7 H7 → ∃ m, m < n ∧ ∃ i σ' H', Inv X pins σ' H' s7 ∧ tn i s7.heap ∧ (∀ b ∈ fp, H' b = none) ∧ W i m σ' H' := fun {σ7 H7} I7 n7 => by
      obtain ⟨m', hm, w7⟩ := hN σ7 H7 n7
      refine ⟨m', hm, i + 1, σ7, H7, I7.unpinned, T.keep _ _ _ st5 fun b hb o e => (I7.pin (b, o) (List.mem_append_right _ (List.mem_append_right _ (mem_pinsAt hb e)))).1, fun b hb => ?_, w7⟩
      obtain ⟨o, e, d⟩ := T.obj _ _ st5 b hb
      exact (I7.pin (b, o) (List.mem_append_right _ (List.mem_append_right _ (mem_pinsAt hb e)))).2.1
    cases f with
    | next => obtain ⟨σ7, H7, I7, n7⟩ := q7; exact again I7 n7
    | cont => obtain ⟨σ7, H7, I7, n7⟩ := q7; exact again I7 n7
    | brk => obtain ⟨σ7, H7, I7, q7⟩ := q7; exact ⟨σ7, H7, I7.unpinned, q7⟩
    | ret v => obtain ⟨x7, σ7, H7, I7, r7, q7⟩ := q7; exact ⟨x7, σ7, H7, I7.unpinned, r7, q7⟩
end
@[reducible] def PAt {α : Type} (P : Nat → α → Hp → Prop) (i : Nat) : α → Hp → Prop := P i
theorem for_list {K : PySem.W.Frag} {a : Addr} {xs : List V} {g : TG} {tb : TS} {D : Ends} {σ : St} {H : Hp} (Pv : Nat → St → Hp → Prop) (h0 : Pv 0 σ H) (hl : ∀ i σ H, i ≤ xs.length → Pv i σ H → SqL K H a xs)
    (hs : ∀ i x σ H, xs[i]? = some x → Pv i σ H → g x σ H fun σ2 H2 => tb { D with nx := PAt Pv (i + 1), ct := PAt Pv (i + 1), bk := D.nx } σ2 H2) (hd : ∀ σ H, Pv xs.length σ H → D.nx σ H) :
    ∃ W : Nat → Nat → St → Hp → Prop, (∃ m, W 0 m σ H) ∧ ∀ i m σ H, W i m σ H →
      ((Itl K a).stop i H ∧ D.nx σ H) ∨ ((Itl K a).go i H ∧ ∃ N : St → Hp → Prop, (∀ σ' H', N σ' H' → ∃ m', m' < m ∧ W (i + 1) m' σ' H') ∧ ∀ x H', (Itl K a).yld i H x H' → g x σ H' fun σ2 H2 => tb { D with nx := N, ct := N, bk := D.nx } σ2 H2) := by
  refine ⟨fun i m σ H => m = xs.length - i ∧ i ≤ xs.length ∧ Pv i σ H, ⟨xs.length, by simp, Nat.zero_le _, h0⟩, ?_⟩
  rintro i m σ H ⟨rfl, hi, p⟩
  have q := hl i σ H hi p
  by_cases hlt : i < xs.length
  · refine .inr ⟨⟨xs, xs[i], q, by simp [hlt]⟩, Pv (i + 1), fun σ' H' p' => ⟨xs.length - (i + 1), by omega, rfl, hlt, p'⟩, fun x H' y => ?_⟩
    obtain ⟨e, y⟩ := y
    subst e
    exact hs i x σ _ (y xs q) p
  · have e : i = xs.length := by omega
    subst e
    exact .inl ⟨⟨xs, q, Nat.le_refl _⟩, hd σ H p⟩
theorem for_tup {K : PySem.W.Frag} {a : Addr} {xs : List V} {g : TG} {tb : TS} {D : Ends} {σ : St} {H : Hp} (Pv : Nat → St → Hp → Prop) (h0 : Pv 0 σ H) (hl : ∀ i σ H, i ≤ xs.length → Pv i σ H → SqT K H a xs)
    (hs : ∀ i x σ H, xs[i]? = some x → Pv i σ H → g x σ H fun σ2 H2 => tb { D with nx := PAt Pv (i + 1), ct := PAt Pv (i + 1), bk := D.nx } σ2 H2) (hd : ∀ σ H, Pv xs.length σ H → D.nx σ H) :
    ∃ W : Nat → Nat → St → Hp → Prop, (∃ m, W 0 m σ H) ∧ ∀ i m σ H, W i m σ H →
      ((Itt K a).stop i H ∧ D.nx σ H) ∨ ((Itt K a).go i H ∧ ∃ N : St → Hp → Prop, (∀ σ' H', N σ' H' → ∃ m', m' < m ∧ W (i + 1) m' σ' H') ∧ ∀ x H', (Itt K a).yld i H x H' → g x σ H' fun σ2 H2 => tb { D with nx := N, ct := N, bk := D.nx } σ2 H2) := by
  refine ⟨fun i m σ H => m = xs.length - i ∧ i ≤ xs.length ∧ Pv i σ H, ⟨xs.length, by simp, Nat.zero_le _, h0⟩, ?_⟩
  rintro i m σ H ⟨rfl, hi, p⟩
  have q := hl i σ H hi p
  by_cases hlt : i < xs.length
  · refine .inr ⟨⟨xs, xs[i], q, by simp [hlt]⟩, Pv (i + 1), fun σ' H' p' => ⟨xs.length - (i + 1), by omega, rfl, hlt, p'⟩, fun x H' y => ?_⟩
    obtain ⟨e, y⟩ := y
    subst e
    exact hs i x σ _ (y xs q) p
  · have e : i = xs.length := by omega
    subst e
    exact .inl ⟨⟨xs, q, Nat.le_refl _⟩, hd σ H p⟩
theorem for_range {lo : Int} {n : Nat} {g : TG} {tb : TS} {D : Ends} {σ : St} {H : Hp} (Pv : Nat → St → Hp → Prop) (h0 : Pv 0 σ H)
    (hs : ∀ i σ H, i < n → Pv i σ H → g (.int (lo + i)) σ H fun σ2 H2 => tb { D with nx := PAt Pv (i + 1), ct := PAt Pv (i + 1), bk := D.nx } σ2 H2) (hd : ∀ σ H, Pv n σ H → D.nx σ H) :
    ∃ W : Nat → Nat → St → Hp → Prop, (∃ m, W 0 m σ H) ∧ ∀ i m σ H, W i m σ H →
      ((Itr lo n).stop i H ∧ D.nx σ H) ∨ ((Itr lo n).go i H ∧ ∃ N : St → Hp → Prop, (∀ σ' H', N σ' H' → ∃ m', m' < m ∧ W (i + 1) m' σ' H') ∧ ∀ x H', (Itr lo n).yld i H x H' → g x σ H' fun σ2 H2 => tb { D with nx := N, ct := N, bk := D.nx } σ2 H2) := by
  refine ⟨fun i m σ H => m = n - i ∧ i ≤ n ∧ Pv i σ H, ⟨n, by simp, Nat.zero_le _, h0⟩, ?_⟩
  rintro i m σ H ⟨rfl, hi, p⟩
  by_cases hlt : i < n
  · refine .inr ⟨hlt, Pv (i + 1), fun σ' H' p' => ⟨n - (i + 1), by omega, rfl, hlt, p'⟩, fun x H' y => ?_⟩
    obtain ⟨e, y⟩ := y
    subst e y
    exact hs i σ _ hlt p
  · have e : i = n := by omega
    subst e
    exact .inl ⟨Nat.le_refl _, hd σ H p⟩
end L2
namespace L2
open PySem PySem.Spec PyProof.Rows
abbrev R2 := V → V → Hp → VK → Prop
def OpR (X : Cx) (f : Value → Value → Sem Value) (r : R2) : Prop :=
  ∀ (pins : List (Addr × Obj)) (s : Shared) (σ : St) (H : Hp) (x y : V) (v u : Value) (Q : VK), Inv X pins σ H s → RelV x v → RelV y u → r x y H Q →
    wpAny (model X.prog X.w) X.A (f v u) (EP X pins σ Q) X.xe s
def UnR (X : Cx) (f : Value → Sem Value) (r : V → Hp → VK → Prop) : Prop :=
  ∀ (pins : List (Addr × Obj)) (s : Shared) (σ : St) (H : Hp) (x : V) (v : Value) (Q : VK), Inv X pins σ H s → RelV x v → r x H Q →
    wpAny (model X.prog X.w) X.A (f v) (EP X pins σ Q) X.xe s
def CallR (X : Cx) (f : Value) (r : List V → Hp → VK → Prop) : Prop :=
  ∀ (pins : List (Addr × Obj)) (s : Shared) (σ : St) (H : Hp) (xs : List V) (us : List Value) (Q : VK), Inv X pins σ H s → Vals xs us → r xs H Q →
    wpAny (model X.prog X.w) X.A (call f us) (EP X pins σ Q) X.xe s
def TruR (X : Cx) (r : V → Hp → (Bool → Hp → Prop) → Prop) : Prop :=
  ∀ (pins : List (Addr × Obj)) (s : Shared) (σ : St) (H : Hp) (x : V) (v : Value) (Q : Bool → Hp → Prop), Inv X pins σ H s → RelV x v → r x H Q →
    wpAny (model X.prog X.w) X.A (truthy v) (TP X pins σ Q) X.xe s
def tOp (r : R2) (ta tb : TE) : TE := fun σ H Q => ta σ H fun x H1 => tb σ H1 fun y H2 => r x y H2 Q
def tUn (r : V → Hp → VK → Prop) (ta : TE) : TE := fun σ H Q => ta σ H fun x H1 => r x H1 Q
def rI (C : Int → Int → Prop) (g : Int → Int → V) : R2 := fun x y H Q => ∃ i j, x = .int i ∧ y = .int j ∧ C i j ∧ Q (g i j) H
def rI0 (g : Int → Int → V) : R2 := fun x y H Q => ∃ i j, x = .int i ∧ y = .int j ∧ Q (g i j) H
def rU (g : Int → V) : V → Hp → VK → Prop := fun x H Q => ∃ i, x = .int i ∧ Q (g i) H
section
variable {X : Cx} {a b c : Expr} {ta tb tc : TE} {pos : Pos}
theorem binT (ha : PE X a ta) (hb : PE X b tb) {pins : List (Addr × Obj)} {s : Shared} {σ : St} {H : Hp} {R : V → V → Hp → Prop} (I : Inv X pins σ H s)
    (h : ta σ H fun x H1 => tb σ H1 fun y H2 => R x y H2) {Q : Value → Shared → Prop} {f : Value → Value → Sem Value}
    (hf : ∀ v u s2 x y H2, Inv X pins σ H2 s2 → RelV x v → RelV y u → R x y H2 → wpAny (model X.prog X.w) X.A (f v u) Q X.xe s2) :
    wpAny (model X.prog X.w) X.A (eval a X.env) (fun v s₁ => wpAny (model X.prog X.w) X.A (eval b X.env) (fun u s₂ => wpAny (model X.prog X.w) X.A (f v u) Q X.xe s₂) X.xe s₁) X.xe s := by
  refine thn (ha pins s σ H _ I h) fun v s1 ⟨x, H1, I1, r1, q1⟩ => ?_
  refine thn (hb pins s1 σ H1 _ I1 q1) fun u s2 ⟨y, H2, I2, r2, q2⟩ => ?_
  exact hf v u s2 x y H2 I2 r1 r2 q2
theorem pe_op {op : Operator} {r : R2} (ho : OpR X (binaryOp op) r) (ha : PE X a ta) (hb : PE X b tb) : PE X (.BinOp a op b pos) (tOp r ta tb) := by
  intro pins s σ H Q I h
  exact wpAny_BinOp (binT ha hb I h fun v u s2 x y H2 I2 rx ry q => ho pins s2 σ H2 x y v u Q I2 rx ry q)
theorem pe_un {op : UnaryOp} {r : V → Hp → VK → Prop} (ho : UnR X (unaryOp op) r) (ha : PE X a ta) : PE X (.UnaryOp op a pos) (tUn r ta) := by
  intro pins s σ H Q I h
  exact UnaryOp_ (thn (ha pins s σ H _ I h) fun v s1 ⟨x, H1, I1, r1, q1⟩ => ho pins s1 σ H1 x v Q I1 r1 q1)
theorem opI {f : Value → Value → Sem Value} {C : Int → Int → Prop} {g : Int → Int → Int}
    (rule : ∀ (i j : Int) (t u : Tok) (s : Shared) (Q : Value → Shared → Prop) (E : Value → Shared → Prop), C i j → Q (.int (g i j) s.toks) { s with toks := s.toks + 1 } → wpAny (model X.prog X.w) X.A (f (.int i t) (.int j u)) Q E s) :
    OpR X f (rI C fun i j => .int (g i j)) := by
  intro pins s σ H x y v u Q I rx ry h
  obtain ⟨i, j, rfl, rfl, hc, q⟩ := h
  obtain ⟨t, rfl⟩ := rx
  obtain ⟨t', rfl⟩ := ry
  exact rule i j t t' s _ _ hc ⟨.int (g i j), H, I.tok _, ⟨_, rfl⟩, q⟩
theorem opI0 {f : Value → Value → Sem Value} {g : Int → Int → Int}
    (rule : ∀ (i j : Int) (t u : Tok) (s : Shared) (Q : Value → Shared → Prop) (E : Value → Shared → Prop), Q (.int (g i j) s.toks) { s with toks := s.toks + 1 } → wpAny (model X.prog X.w) X.A (f (.int i t) (.int j u)) Q E s) :
    OpR X f (rI0 fun i j => .int (g i j)) := by
  intro pins s σ H x y v u Q I rx ry h
  obtain ⟨i, j, rfl, rfl, q⟩ := h
  obtain ⟨t, rfl⟩ := rx
  obtain ⟨t', rfl⟩ := ry
  exact rule i j t t' s _ _ ⟨.int (g i j), H, I.tok _, ⟨_, rfl⟩, q⟩
theorem opB0 {f : Value → Value → Sem Value} {g : Int → Int → Bool}
    (rule : ∀ (i j : Int) (t u : Tok) (s : Shared) (Q : Value → Shared → Prop) (E : Value → Shared → Prop), Q (.bool (g i j)) s → wpAny (model X.prog X.w) X.A (f (.int i t) (.int j u)) Q E s) :
    OpR X f (rI0 fun i j => .bl (g i j)) := by
  intro pins s σ H x y v u Q I rx ry h
  obtain ⟨i, j, rfl, rfl, q⟩ := h
  obtain ⟨t, rfl⟩ := rx
  obtain ⟨t', rfl⟩ := ry
  exact rule i j t t' s _ _ ⟨.bl (g i j), H, I, rfl, q⟩
def CDiv (i j : Int) : Prop := 0 < j ∧ j < 1073741824
def CPow (i j : Int) : Prop := 0 ≤ j ∧ j ≤ 1000000 ∧ i.natAbs < 2 ^ 64
def CMul (i j : Int) : Prop := (-(2 ^ 64) < i ∧ i < 2 ^ 64) ∨ (-(2 ^ 64) < j ∧ j < 2 ^ 64)
theorem CMul.ok {i j : Int} (h : CMul i j) : IntMulOk i j := by
  rcases h with ⟨h1, h2⟩ | ⟨h1, h2⟩
  · exact .of_left (intBits_le_64 h1 h2)
  · exact .of_right (intBits_le_64 h1 h2)
theorem op_add : OpR X (binaryOp .Add) (rI0 fun i j => .int (i + j)) := opI0 fun _ _ _ _ _ _ _ q => add_int q
theorem op_sub : OpR X (binaryOp .Sub) (rI0 fun i j => .int (i - j)) := opI0 fun _ _ _ _ _ _ _ q => sub_int q
theorem op_mul : OpR X (binaryOp .Mult) (rI CMul fun i j => .int (i * j)) := opI fun _ _ _ _ _ _ _ hc q => mul_int q hc.ok
theorem op_fdiv : OpR X (binaryOp .FloorDiv) (rI CDiv fun i j => .int (i / j)) := opI fun i j _ _ _ _ _ hc q => by
  have h1 : (0 : Int) < j := hc.1
  have h2 : j < 1073741824 := hc.2
  exact floordiv_int (by omega) (by rw [Int.fdiv_eq_ediv_of_nonneg i (by omega)]; exact q) (.inl (PyProof.noPylong_small (by omega)))
theorem op_mod : OpR X (binaryOp .Mod) (rI (fun _ j => 0 < j) fun i j => .int (i % j)) := opI fun i j _ _ _ _ _ hc q => by
  have h1 : (0 : Int) < j := hc
  exact mod_int' (by omega) (by rw [Int.fmod_eq_emod_of_nonneg i (by omega)]; exact q)
theorem op_pow : OpR X (binaryOp .Pow) (rI CPow fun i j => .int (i ^ j.toNat)) := opI fun _ _ _ _ _ _ _ hc q => pow_int_small hc.1 hc.2.1 hc.2.2 q
theorem unI {f : Value → Sem Value} {g : Int → Int}
    (rule : ∀ (i : Int) (t : Tok) (s : Shared) (Q : Value → Shared → Prop) (E : Value → Shared → Prop), Q (.int (g i) s.toks) { s with toks := s.toks + 1 } → wpAny (model X.prog X.w) X.A (f (.int i t)) Q E s) :
    UnR X f (rU fun i => .int (g i)) := by
  intro pins s σ H x v Q I rx h
  obtain ⟨i, rfl, q⟩ := h
  obtain ⟨t, rfl⟩ := rx
  exact rule i t s _ _ ⟨.int (g i), H, I.tok _, ⟨_, rfl⟩, q⟩
theorem un_neg : UnR X (unaryOp .USub) (rU fun i => .int (-i)) := unI fun _ _ _ _ _ q => neg_int q
end
def scal : V → V → Bool
  | .non, .non => true | .non, .int _ => true | .int _, .non => true | .non, .bl _ => true | .bl _, .non => true | .non, .str _ => true | .str _, .non => true
  | .int _, .int _ => true | .bl _, .bl _ => true | .str _, .str _ => true | .byt _, .byt _ => true
  | .int _, .str _ => true | .str _, .int _ => true | .bl _, .str _ => true | .str _, .bl _ => true
  | _, _ => false
def rEq : R2 := fun x y H Q => scal x y = true ∧ Q (.bl (decide (x = y))) H
def rNe : R2 := fun x y H Q => scal x y = true ∧ Q (.bl (!decide (x = y))) H
theorem dec_int {i j : Int} : decide (V.int i = V.int j) = (i == j) := by
  rw [Bool.eq_iff_iff]
  simp
theorem dec_bl {i j : Bool} : decide (V.bl i = V.bl j) = (i == j) := by
  rw [Bool.eq_iff_iff]
  simp
theorem dec_str {i j : Str} : decide (V.str i = V.str j) = (i == j) := by
  rw [Bool.eq_iff_iff]
  simp
theorem dec_byt {i j : Array UInt8} : decide (V.byt i = V.byt j) = (i.toList == j.toList) := by
  rw [Bool.eq_iff_iff]
  cases i
  cases j
  simp
section
variable {X : Cx} {a b c : Expr} {ta tb tc : TE} {pos : Pos}
theorem fin_bl {pins : List (Addr × Obj)} {σ : St} {H : Hp} {s : Shared} {Q : VK} {k k' : Bool} (I : Inv X pins σ H s) (q : Q (.bl k) H) (e : k = k') : EP X pins σ Q (.bool k') s := by
  subst e
  exact ⟨.bl k, H, I, rfl, q⟩
theorem op_eq : OpR X (compareOp .Eq) rEq := by
  intro pins s σ H x y v u Q I rx ry h
  obtain ⟨hs, q⟩ := h
  cases x with
  | non =>
    cases rx
    cases y with
    | non => cases ry; exact PySem.EqNone.eq_none_none (fin_bl I q (by simp))
    | bl j => cases ry; exact PySem.EqNone.eq_none_bool (fin_bl I q (by simp))
    | int j => obtain ⟨t', rfl⟩ := ry; exact PySem.EqNone.eq_none_int (fin_bl I q (by simp))
    | str j => obtain ⟨t', rfl⟩ := ry; exact PySem.EqNone.eq_none_str (fin_bl I q (by simp))
    | _ => exact absurd (show false = true from hs) Bool.false_ne_true
  | bl i =>
    cases rx
    cases y with
    | non => cases ry; exact PySem.EqNone.eq_bool_none (fin_bl I q (by simp))
    | bl j => cases ry; exact eq_bool (fin_bl I q dec_bl)
    | str j => obtain ⟨t', rfl⟩ := ry; exact PySem.EqMixed.eq_bool_str (fin_bl I q (by simp))
    | _ => exact absurd (show false = true from hs) Bool.false_ne_true
  | int i =>
    obtain ⟨t, rfl⟩ := rx
    cases y with
    | non => cases ry; exact PySem.EqNone.eq_int_none (fin_bl I q (by simp))
    | int j => obtain ⟨t', rfl⟩ := ry; exact eq_int (fin_bl I q dec_int)
    | str j => obtain ⟨t', rfl⟩ := ry; exact PySem.EqMixed.eq_int_str (fin_bl I q (by simp))
    | _ => exact absurd (show false = true from hs) Bool.false_ne_true
  | str i =>
    obtain ⟨t, rfl⟩ := rx
    cases y with
    | non => cases ry; exact PySem.EqNone.eq_str_none (fin_bl I q (by simp))
    | bl j => cases ry; exact PySem.EqMixed.eq_str_bool (fin_bl I q (by simp))
    | int j => obtain ⟨t', rfl⟩ := ry; exact PySem.EqMixed.eq_str_int (fin_bl I q (by simp))
    | str j => obtain ⟨t', rfl⟩ := ry; exact eq_str (fin_bl I q dec_str)
    | _ => exact absurd (show false = true from hs) Bool.false_ne_true
  | byt i =>
    obtain ⟨t, rfl⟩ := rx
    cases y with
    | byt j => obtain ⟨t', rfl⟩ := ry; exact PySem.W.eq_bytes (fin_bl I q dec_byt)
    | _ => exact absurd (show false = true from hs) Bool.false_ne_true
  | _ => cases y <;> exact absurd (show false = true from hs) Bool.false_ne_true
theorem op_ne : OpR X (compareOp .NotEq) rNe := by
  intro pins s σ H x y v u Q I rx ry h
  obtain ⟨hs, q⟩ := h
  cases x with
  | non =>
    cases rx
    cases y with
    | non => cases ry; exact PySem.EqNone.ne_none_none (fin_bl I q (by simp))
    | bl j => cases ry; exact PySem.EqNone.ne_none_bool (fin_bl I q (by simp))
    | int j => obtain ⟨t', rfl⟩ := ry; exact PySem.EqNone.ne_none_int (fin_bl I q (by simp))
    | str j => obtain ⟨t', rfl⟩ := ry; exact PySem.EqNone.ne_none_str (fin_bl I q (by simp))
    | _ => exact absurd (show false = true from hs) Bool.false_ne_true
  | bl i =>
    cases rx
    cases y with
    | non => cases ry; exact PySem.EqNone.ne_bool_none (fin_bl I q (by simp))
    | bl j => cases ry; exact ne_bool (fin_bl I q (congrArg not dec_bl))
    | str j => obtain ⟨t', rfl⟩ := ry; exact PySem.EqMixed.ne_bool_str (fin_bl I q (by simp))
    | _ => exact absurd (show false = true from hs) Bool.false_ne_true
  | int i =>
    obtain ⟨t, rfl⟩ := rx
    cases y with
    | non => cases ry; exact PySem.EqNone.ne_int_none (fin_bl I q (by simp))
    | int j => obtain ⟨t', rfl⟩ := ry; exact ne_int (fin_bl I q (congrArg not dec_int))
    | str j => obtain ⟨t', rfl⟩ := ry; exact PySem.EqMixed.ne_int_str (fin_bl I q (by simp))
    | _ => exact absurd (show false = true from hs) Bool.false_ne_true
  | str i =>
    obtain ⟨t, rfl⟩ := rx
    cases y with
    | non => cases ry; exact PySem.EqNone.ne_str_none (fin_bl I q (by simp))
    | bl j => cases ry; exact PySem.EqMixed.ne_str_bool (fin_bl I q (by simp))
    | int j => obtain ⟨t', rfl⟩ := ry; exact PySem.EqMixed.ne_str_int (fin_bl I q (by simp))
    | str j => obtain ⟨t', rfl⟩ := ry; exact ne_str (fin_bl I q (congrArg not dec_str))
    | _ => exact absurd (show false = true from hs) Bool.false_ne_true
  | byt i =>
    obtain ⟨t, rfl⟩ := rx
    cases y with
    | byt j => obtain ⟨t', rfl⟩ := ry; exact PySem.W.ne_bytes (fin_bl I q (congrArg not dec_byt))
    | _ => exact absurd (show false = true from hs) Bool.false_ne_true
  | _ => cases y <;> exact absurd (show false = true from hs) Bool.false_ne_true
theorem op_lt : OpR X (compareOp .Lt) (rI0 fun i j => .bl (decide (i < j))) := opB0 fun _ _ _ _ _ _ _ q => lt_int q
theorem op_le : OpR X (compareOp .LtE) (rI0 fun i j => .bl (decide (i ≤ j))) := opB0 fun _ _ _ _ _ _ _ q => le_int q
theorem op_gt : OpR X (compareOp .Gt) (rI0 fun i j => .bl (decide (j < i))) := opB0 fun _ _ _ _ _ _ _ q => gt_int q
theorem op_ge : OpR X (compareOp .GtE) (rI0 fun i j => .bl (decide (j ≤ i))) := opB0 fun _ _ _ _ _ _ _ q => ge_int q
theorem op_lt_str : OpR X (compareOp .Lt) (fun x y H Q => ∃ i j, x = .str i ∧ y = .str j ∧ Q (.bl (decide (i.cps.toList < j.cps.toList))) H) := by
  intro pins s σ H x y v u Q I rx ry h
  obtain ⟨i, j, rfl, rfl, q⟩ := h
  obtain ⟨t, rfl⟩ := rx
  obtain ⟨t', rfl⟩ := ry
  exact lt_str (fin_bl I q rfl)
theorem op_in_str : OpR X (compareOp .In) (fun x y H Q => ∃ i j, x = .str i ∧ y = .str j ∧ Q (.bl (!(Builtin.Str.occurrences j i 0 j.length 1).isEmpty)) H) := by
  intro pins s σ H x y v u Q I rx ry h
  obtain ⟨i, j, rfl, rfl, q⟩ := h
  obtain ⟨t, rfl⟩ := rx
  obtain ⟨t', rfl⟩ := ry
  exact in_str (fin_bl I q rfl)
theorem op_isN : OpR X (compareOp .Is) (fun x y H Q => y = .non ∧ Q (.bl (decide (x = .non))) H) := by
  intro pins s σ H x y v u Q I rx ry h
  obtain ⟨rfl, q⟩ := h
  cases ry
  refine is_none_gen (fin_bl I q ?_)
  cases x <;> first
    | (cases rx; rfl)
    | (obtain ⟨t, rfl⟩ := rx; rfl)
theorem op_notN : OpR X (compareOp .IsNot) (fun x y H Q => y = .non ∧ Q (.bl (!decide (x = .non))) H) := by
  intro pins s σ H x y v u Q I rx ry h
  obtain ⟨rfl, q⟩ := h
  cases ry
  refine isnot_none_gen (fin_bl I q ?_)
  cases x <;> first
    | (cases rx; rfl)
    | (obtain ⟨t, rfl⟩ := rx; rfl)
theorem OpR.or {f : Value → Value → Sem Value} {r r' : R2} (h : OpR X f r) (h' : OpR X f r') : OpR X f (fun x y H Q => r x y H Q ∨ r' x y H Q) := by
  intro pins s σ H x y v u Q I rx ry q
  rcases q with q | q
  · exact h pins s σ H x y v u Q I rx ry q
  · exact h' pins s σ H x y v u Q I rx ry q
theorem nomark (b : Expr) {op : CmpOp} (h : op ≠ .In := by decide) (h2 : op ≠ .NotIn := by decide) : behindInMarks op b = false := by
  have e1 : (op == CmpOp.In) = false := by cases op <;> first | rfl | exact absurd rfl h
  have e2 : (op == CmpOp.NotIn) = false := by cases op <;> first | rfl | exact absurd rfl h2
  cases b <;> simp [behindInMarks, e1, e2]
theorem pe_cmpR {op : CmpOp} {r : R2} (ho : OpR X (compareOp op) r) (ha : PE X a ta) (hb : PE X b tb) (hm : behindInMarks op b = false) : PE X (.Compare a [op] [b] pos) (tOp r ta tb) := by
  intro pins s σ H Q I h
  exact wpAny_Compare1 (binT ha hb I h fun v u s2 x y H2 I2 rx ry q => ho pins s2 σ H2 x y v u Q I2 rx ry q) hm
def tTest (t : TE) : TT := fun σ H Q => t σ H fun x H' => ∃ k, x = .bl k ∧ Q k H'
theorem pt_cmpR {op : CmpOp} {r : R2} (ho : OpR X (compareOp op) r) (ha : PE X a ta) (hb : PE X b tb) (hm : behindInMarks op b = false) : PT X (.Compare a [op] [b] pos) (tTest (tOp r ta tb)) := by
  intro pins s σ H Q I h
  refine wpAny_isTrue_Compare1 (thn (ha pins s σ H _ I h) fun v s1 ⟨x, H1, I1, r1, q1⟩ => thn (hb pins s1 σ H1 _ I1 q1) fun u s2 ⟨y, H2, I2, r2, q2⟩ =>
    thn (ho pins s2 σ H2 x y v u _ I2 r1 r2 q2) fun c s3 ⟨z, H3, I3, r3, k, e, q3⟩ => ?_) hm
  subst e
  cases r3
  exact wpAny_truthy_bool ⟨H3, I3, q3⟩
def tChain (r r' : R2) (ta tb tc : TE) : TE := fun σ H Q => ta σ H fun x H1 => tb σ H1 fun y H2 => r x y H2 fun z H3 => ∃ k, z = .bl k ∧
  (if k = true then tc σ H3 fun w' H4 => r' y w' H4 Q else Q (.bl false) H3)
theorem pt_chain {op op' : CmpOp} {r r' : R2} (ho : OpR X (compareOp op) r) (ho' : OpR X (compareOp op') r') (ha : PE X a ta) (hb : PE X b tb) (hc : PE X c tc)
    (hm : lastMarks [op, op'] [b, c] = false := by with_unfolding_all rfl) : PT X (.Compare a [op, op'] [b, c] pos) (tTest (tChain r r' ta tb tc)) := by
  intro pins s σ H Q I h
  refine isTrue_chain (thn (ha pins s σ H _ I h) fun v s1 ⟨x, H1, I1, r1, q1⟩ => test_link (thn (hb pins s1 σ H1 _ I1 q1) fun u s2 ⟨y, H2, I2, r2, q2⟩ =>
    thn (ho pins s2 σ H2 x y v u _ I2 r1 r2 q2) fun d s3 ⟨z, H3, I3, r3, k, e, q3⟩ => ?_)) hm
  subst e
  cases r3
  refine wpAny_truthy_bool ?_
  cases k with
  | false =>
    obtain ⟨k', e', q'⟩ := q3
    cases e'
    exact ite_ff ⟨H3, I3, q'⟩
  | true =>
    refine ite_tt (test_last (thn (hc pins s3 σ H3 _ I3 q3) fun w' s4 ⟨z', H4, I4, r4, q4⟩ => thn (ho' pins s4 σ H4 y z' u w' _ I4 r2 r4 q4) fun d' s5 ⟨z2, H5, I5, r5, k2, e2, q5⟩ => ?_))
    subst e2
    cases r5
    exact wpAny_truthy_bool ⟨H5, I5, q5⟩
def TruV (K : PySem.W.Frag) (x : V) (H : Hp) (k : Bool) : Prop :=
  match x with
  | .non => k = false
  | .bl b => k = b
  | .int i => k = (i != 0)
  | .str y => y.length ≤ sizeLine ∧ k = ((y.length : Int) != 0)
  | .byt y => y.size ≤ sizeLine ∧ k = ((y.size : Int) != 0)
  | .ref p => (∃ xs, SqL K H p xs ∧ k = !xs.isEmpty) ∨ (∃ xs, SqT K H p xs ∧ k = !xs.isEmpty) ∨ ∃ kvs, H p = some (.dK kvs) ∧ k = !kvs.isEmpty
  | _ => False
theorem isEmpty_kv {κ : Type} {kvs : List (κ × V)} {vs : List (κ × Value)} (r : KV kvs vs) : (!vs.isEmpty) = !kvs.isEmpty := by
  cases r <;> rfl
theorem isEmpty_of {xs : List V} {its : List Value} (r : Vals xs its) : (!its.toArray.isEmpty) = !xs.isEmpty := by
  cases r <;> simp
theorem line63 : (sizeLine : Nat) < 2 ^ 63 := by rw [sizeLine_eq]; decide
theorem tru_ok : TruR X (fun x H Q => ∃ k, TruV X.K x H k ∧ Q k H) := by
  intro pins s σ H x v Q I rx h
  obtain ⟨k, e, q⟩ := h
  have hl := line63
  have hs : sizeLine = 16777216 := sizeLine_eq
  cases x with
  | non =>
    cases rx
    have e' : k = false := e
    subst e'
    exact truthy_none ⟨H, I, q⟩
  | bl b =>
    cases rx
    have e' : k = b := e
    subst e'
    exact wpAny_truthy_bool ⟨H, I, q⟩
  | int i =>
    obtain ⟨t, rfl⟩ := rx
    have e' : k = (i != 0) := e
    subst e'
    exact PySem.P.truthy_int ⟨H, I, q⟩
  | str y =>
    obtain ⟨t, rfl⟩ := rx
    obtain ⟨hy, e'⟩ : y.length ≤ sizeLine ∧ k = ((y.length : Int) != 0) := e
    subst e'
    exact PySem.P.truthy_str (by omega) ⟨H, I.tok _, q⟩
  | byt y =>
    obtain ⟨t, rfl⟩ := rx
    obtain ⟨hy, e'⟩ : y.size ≤ sizeLine ∧ k = ((y.size : Int) != 0) := e
    subst e'
    exact PySem.W.truthy_bytes (by omega) ⟨H, I.tok _, q⟩
  | ref p =>
    cases rx
    have e' : (∃ xs, SqL X.K H p xs ∧ k = !xs.isEmpty) ∨ (∃ xs, SqT X.K H p xs ∧ k = !xs.isEmpty) ∨ ∃ kvs, H p = some (.dK kvs) ∧ k = !kvs.isEmpty := e
    rcases e' with ⟨xs, hx, e'⟩ | ⟨xs, hx, e'⟩ | ⟨kvs, hx, e'⟩
    · subst e'
      obtain ⟨its, r, pl, hz⟩ := I.list hx
      have hlen := r.length
      exact wpAny_truthy_list pl.isList (by simp only [List.size_toArray]; omega) ⟨H, I.tok _, by rw [isEmpty_of r]; exact q⟩
    · subst e'
      obtain ⟨its, r, pl, hz⟩ := I.tuple hx
      have hlen := r.length
      exact truthy_tuple pl (by simp only [List.size_toArray]; omega) ⟨H, I.tok _, by rw [isEmpty_of r]; exact q⟩
    · subst e'
      obtain ⟨hz, hS, vs, r, m⟩ : kvs.length ≤ sizeLine ∧ (p == sysModules) = false ∧ ∃ vs, KV kvs vs ∧ s.heap.DictOf (mixKind X.prog X.w) p vs := I.hok p _ hx
      have hlen : kvs.length = vs.length := Paired.length r
      exact wpAny_truthy_dict hS m (by omega) ⟨H, I.tok _, by rw [isEmpty_kv r]; exact q⟩
  | _ => exact (show False from e).elim
theorem op_add_str : OpR X (binaryOp .Add) (fun x y H Q => ∃ i j, x = .str i ∧ y = .str j ∧ i.length + j.length ≤ sizeLine ∧ Q (.str (i ++ j)) H) := by
  intro pins s σ H x y v u Q I rx ry h
  obtain ⟨i, j, rfl, rfl, hz, q⟩ := h
  obtain ⟨t, rfl⟩ := rx
  obtain ⟨t', rfl⟩ := ry
  exact wpAny_with_toks (n := 1) I.tk (add_str (fun t' tk ht => ⟨.str (i ++ j), H, I.tok _ ht, ⟨_, rfl⟩, q⟩) hz)
theorem vals1 {x : V} {us : List Value} (r : Vals [x] us) : ∃ u, us = [u] ∧ RelV x u := by
  cases r with
  | cons r1 r2 => cases r2; exact ⟨_, rfl, r1⟩
theorem vals2 {x y : V} {us : List Value} (r : Vals [x, y] us) : ∃ u w', us = [u, w'] ∧ RelV x u ∧ RelV y w' := by
  cases r with
  | cons r1 r2 =>
    cases r2 with
    | cons r3 r4 => cases r4; exact ⟨_, _, rfl, r1, r3⟩
theorem call_int1 : CallR X (.type "int") (fun xs H Q => (∃ i, xs = [.int i] ∧ Q (.int i) H) ∨ ∃ k, xs = [.bl k] ∧ Q (.int (if k then 1 else 0)) H) := by
  intro pins s σ H xs us Q I r h
  rcases h with ⟨i, rfl, q⟩ | ⟨k, rfl, q⟩
  · obtain ⟨u, rfl, t, rfl⟩ := vals1 r
    exact call_int_int ⟨.int i, H, I, ⟨_, rfl⟩, q⟩
  · obtain ⟨u, rfl, r1⟩ := vals1 r
    cases r1
    exact call_int_bool ⟨.int (if k then 1 else 0), H, I.tok _, ⟨_, rfl⟩, q⟩
end
end L2
namespace L2
open PySem PySem.Spec PyProof.Rows
structure ObjM (h : Heap) (x dx C : Addr) (mA : Str → Option Value) : Prop where
  obj : h.get? x = some (PySem.W.instObj C dx)
  ns : h.Ns1 dx mA
  ne : dx ≠ x
theorem lookIn_ns {h : Heap} {dx : Addr} {mA : Str → Option Value} (n : h.Ns1 dx mA) : ∃ od, h.get? dx = some od ∧ ∀ name, PySem.W.lookIn name od = some (mA name) := by
  obtain ⟨o, es, ep, ho, hd, hk, _, hm⟩ := n
  refine ⟨o, ho, fun name => ?_⟩
  have e := hm name
  unfold nsFind findBy at e
  rw [← Array.find?_toList] at e
  unfold PySem.W.lookIn
  rw [hd]
  dsimp only
  split
  · rename_i y q
    rw [q] at e
    exact congrArg some e
  · rename_i q
    rw [q] at e
    have a : es.toList.any (·.refKey) = false := by
      rw [List.any_eq_false]
      intro y hy
      obtain ⟨z, t, hkey⟩ := hk y (Array.mem_toList_iff.mp hy)
      simp [DictEntry.refKey, hkey]
    have a' : ¬ es.toList.any (·.refKey) = true := by rw [a]; exact Bool.false_ne_true
    rw [if_neg a']
    exact congrArg some e
theorem ObjM.look {h : Heap} {x dx C : Addr} {mA : Str → Option Value} (I : ObjM h x dx C mA) : ∃ od, PySem.W.InstAt h x (PySem.W.instObj C dx) C (some od) ∧ ∀ name, PySem.W.lookIn name od = some (mA name) :=
  let ⟨od, ho, hl⟩ := lookIn_ns I.ns
  ⟨od, ⟨I.obj, rfl, rfl, ho⟩, hl⟩
section
variable {prog : Program} {w : World} {A : Around} {E : Value → Shared → Prop} {s : Shared} {K : PySem.W.Frag} {x dx C f : Addr} {mA : Str → Option Value} {name : Str} {v : Value}
end
theorem RelO.some_of {v : V} {o : Option Value} (r : RelO (some v) o) : ∃ u, o = some u ∧ RelV v u := by
  cases o with
  | none => exact (show False from r).elim
  | some u => exact ⟨u, rfl, r⟩
section
variable {P : Program} {w : World} {H H' : Hp} {h h' : Heap} {a C dx : Addr} {fs fs' : List (Str × V)}
theorem ins_get (hok : HOk P w H h) (e : H a = some (.ins C dx fs)) : ∃ mA, ObjM h a dx C mA ∧ (∀ f, RelO (fs.lookup f) (mA f)) ∧ PySem.Within mA (fs.map (·.1)) ∧ fs.length ≤ 1000 ∧ H dx = some (.own a) := by
  obtain ⟨d, z, ne, ob, mA, n, r, q⟩ := (show ObjOk P w H h a (.ins C dx fs) from hok a _ e)
  exact ⟨mA, ⟨ob, n, ne⟩, r, q, z, d⟩
end
structure Cls (K : PySem.W.Frag) (C : Addr) : Prop where
  pg : PySem.W.plainGet K C Str.empty = true
  hd : PySem.W.hasDictIn K C = true
  po : PySem.W.plainOver K C = true
  sa : PySem.W.findIn K (.ref C) "__setattr__" = some (some (.builtin "object.__setattr__"))
theorem Cls.get {K : PySem.W.Frag} {C : Addr} (c : Cls K C) (f : Str) : PySem.W.plainGet K C f = true := c.pg
section
variable {X : Cx} {pins : List (Addr × Obj)} {σ : St} {H : Hp} {s : Shared} {a C dx : Addr} {fs : List (Str × V)} {f : Str} {v : V} {A : Around} {E : Value → Shared → Prop}
end
section
variable {X : Cx} {o e value : Expr} {f : Str} {pos pos' tpos : Pos} {ta tv : TE}
end
section
variable {X : Cx} {pins : List (Addr × Obj)} {σ : St} {H : Hp} {s : Shared} {A : Around} {E : Value → Shared → Prop} {Q : Value → Shared → Prop} {c : Value} {b : Bool}
inductive TyOf (K : PySem.W.Frag) (H : Hp) : V → Value → Prop where
  | non : TyOf K H .non (.type "NoneType")
  | bl (x : Bool) : TyOf K H (.bl x) (.type "bool")
  | int (i : Int) : TyOf K H (.int i) (.type "int")
  | str (x : Str) : TyOf K H (.str x) (.type "str")
  | flt (x : UInt64) : TyOf K H (.flt x) (.type "float")
  | lst {a : Addr} {xs : List V} (e : H a = some (.lst xs)) : TyOf K H (.ref a) (.type "list")
  | frz {a : Addr} {o : Obj} {xs : List V} (e : H a = some (.frz o (.lst xs))) : TyOf K H (.ref a) (.type "list")
  | tup {a : Addr} {xs : List V} (e : H a = some (.tup xs)) : TyOf K H (.ref a) (.type "tuple")
  | dK {a : Addr} {kvs : List (Key × V)} (e : H a = some (.dK kvs)) : TyOf K H (.ref a) (.type "dict")
  | dT {a : Addr} {kvs : List (List Key × V)} (e : H a = some (.dT kvs)) : TyOf K H (.ref a) (.type "dict")
  | ins {a C dx : Addr} {fs : List (Str × V)} (e : H a = some (.ins C dx fs)) (cl : Cls K C) (ha : PySem.W.findIn K (.ref C) "__class__" = some (some (.builtin "object.__class__")))
      (hn : PySem.W.specialIn K (.builtin "object.__class__") "__get__" = some (some (.builtin "getset_descriptor.__get__"))) (htk : PySem.W.takesIn K (.builtin "object.__class__") = some true)
      (hm : PySem.W.mroIn K C (.type "object") = some true) : TyOf K H (.ref a) (.ref C)
theorem isinst_ok {x : V} {u t : Value} (I : Inv X pins σ H s) (rx : RelV x u) (ty : TyOf X.K H x t) (e : PySem.W.kitOne X.K t c = some b) (h : ∀ tk, Q (.bool b) { s with toks := tk }) :
    wpAny (model X.prog X.w) A (call (.builtin "isinstance") [u, c]) Q E s := by
  cases ty with
  | non => cases (show u = Value.none from rx); exact PySem.W.kia_one PySem.W.kitx_none I.kIn True.intro e (fun z => nomatch z) h
  | bl y => cases (show u = Value.bool y from rx); exact PySem.W.kia_one PySem.W.kitx_bool I.kIn True.intro e (fun z => nomatch z) h
  | int i => obtain ⟨t, q⟩ := (show ∃ t, u = Value.int i t from rx); cases q; exact PySem.W.kia_one PySem.W.kitx_int I.kIn True.intro e (fun z => nomatch z) h
  | str y => obtain ⟨t, q⟩ := (show ∃ t, u = Value.str y t from rx); cases q; exact PySem.W.kia_one PySem.W.kitx_str I.kIn True.intro e (fun z => nomatch z) h
  | flt y => obtain ⟨t, q⟩ := (show ∃ t, u = Value.float y t from rx); cases q; exact PySem.W.kia_one PySem.W.kitx_float I.kIn True.intro e (fun z => nomatch z) h
  | @lst a xs ea =>
    cases (show u = Value.ref a from rx)
    obtain ⟨_, _, n, _, h1⟩ := (show ObjOk X.prog X.w H s.heap a (.lst xs) from I.hok a _ ea)
    exact PySem.W.kia_one PySem.W.kitx_list I.kIn ⟨_, h1, rfl⟩ e (fun z => nomatch z) h
  | @frz a ob xs ea =>
    cases (show u = Value.ref a from rx)
    obtain ⟨_, _, _, n, _, h1⟩ := (show ObjOk X.prog X.w H s.heap a (.frz ob (.lst xs)) from I.hok a _ ea)
    exact PySem.W.kia_one PySem.W.kitx_list I.kIn ⟨_, h1, rfl⟩ e (fun z => nomatch z) h
  | @tup a xs ea =>
    cases (show u = Value.ref a from rx)
    obtain ⟨_, _, _, p⟩ := (show ObjOk X.prog X.w H s.heap a (.tup xs) from I.hok a _ ea)
    obtain ⟨o, h1, h2, _⟩ := p
    exact PySem.W.kia_one PySem.W.kitx_tuple I.kIn ⟨o, h1, h2⟩ e (fun z => nomatch z) h
  | @dK a kvs ea =>
    cases (show u = Value.ref a from rx)
    obtain ⟨_, _, vs, _, p⟩ := (show ObjOk X.prog X.w H s.heap a (.dK kvs) from I.hok a _ ea)
    obtain ⟨o, es, ep, h1, h2, _⟩ := p
    exact PySem.W.kia_one PySem.W.kitx_dict I.kIn ⟨o, h1, h2.1⟩ e (fun z => nomatch z) h
  | @dT a kvs ea =>
    cases (show u = Value.ref a from rx)
    obtain ⟨_, _, xs, _, o, es, ep, h1, h2, _⟩ := (show ObjOk X.prog X.w H s.heap a (.dT kvs) from I.hok a _ ea)
    exact PySem.W.kia_one PySem.W.kitx_dict I.kIn ⟨o, h1, h2.1⟩ e (fun z => nomatch z) h
  | @ins a C dx fs ea cl ha hn htk hm =>
    cases (show u = Value.ref a from rx)
    obtain ⟨mA, O, _⟩ := ins_get I.hok ea
    obtain ⟨od, J, _⟩ := O.look
    exact PySem.W.kia_one (PySem.W.kitx_own (cl.get _) cl.hd ha hn htk hm) I.kIn J e (fun z => nomatch z) h
end
end L2
namespace L2
open PySem PySem.Spec PyProof.Rows
structure Room (k : Nat) (A : Around) : Prop where
  hd : A.handled = none
  dp : A.depth + 3 * k + 5 < recursionLimit
  un : A.units + 16 * k + 200 < cLine
theorem Room.mono {j k : Nat} {A : Around} (r : Room k A) (h : j ≤ k) : Room j A := ⟨r.hd, by have := r.dp; omega, by have := r.un; omega⟩
theorem Room.deeper {k : Nat} {A : Around} (r : Room (k + 1) A) (env : Env) : Room k (A.deeper env) :=
  ⟨r.hd, by have := r.dp; show A.depth + 1 + 3 * k + 5 < _; omega, by have := r.un; show A.units + 3 + 16 * k + 200 < _; omega⟩
theorem Room.depth {k : Nat} {A : Around} (r : Room k A) : A.depth < recursionLimit := by have := r.dp; omega
theorem Room.units {k : Nat} {A : Around} (r : Room k A) : A.units + 64 < cLine := by have := r.un; omega
def tNil : TA := fun _ H Q => Q [] H
def tCons (ta : TE) (tr : TA) : TA := fun σ H Q => ta σ H fun x H1 => tr σ H1 fun xs H2 => Q (x :: xs) H2
section
variable {X : Cx} {e : Expr} {es : List Expr} {te : TE} {t : TA} {pos : Pos}
theorem pa_nil : PA X [] tNil := fun _ _ _ _ H Q I h => Calls.spliced_nil ⟨[], H, I, .nil, h⟩
theorem pa_cons (ha : PE X e te) (hr : PA X es t) (hs : starEach (e :: es) X.env = (false, eval e X.env) :: starEach es X.env := by rfl) : PA X (e :: es) (tCons te t) := by
  intro pos pins s σ H Q I h
  rw [hs]
  show wpAny _ _ (spliced ((false, eval e X.env) :: backTo pos (starEach es X.env))) _ _ s
  refine Calls.spliced_cons (thn (ha pins s σ H _ I h) fun u s1 ⟨x, H1, I1, r1, q1⟩ => ?_)
  exact thn (hr pos pins s1 σ H1 _ I1 q1) fun us s2 ⟨xs, H2, I2, r2, q2⟩ => ⟨x :: xs, H2, I2, .cons r1 r2, q2⟩
def tTup (t : TA) : TE := fun σ H Q => t σ H fun xs H1 => xs.length ≤ sizeLine ∧ ∀ p, H1 p = none → Q (.ref p) (upd H1 p (.tup xs))
def tLst (t : TA) : TE := fun σ H Q => t σ H fun xs H1 => xs.length ≤ sizeLine ∧ ∀ p, H1 p = none → Q (.ref p) (upd H1 p (.lst xs))
theorem pe_tup {x1} (h : PA X es t) : PE X (.Tuple es x1 pos) (tTup t) := by
  intro pins s σ H Q I hq
  refine wpAny_Tuple_spliced (thn (h pos pins s σ H _ I hq) fun us s1 ⟨xs, H1, I1, r, z, q⟩ => ⟨by rw [← r.length]; exact z, ?_⟩)
  have hf : H1 s1.heap.objs.size = none := I1.hok.fresh (Nat.le_refl _)
  refine ⟨.ref s1.heap.objs.size, upd H1 s1.heap.objs.size (.tup xs), I1.laid (t' := s1.toks) (fun b u e => Heap.get?_push_of_some _ e) (Nat.le_refl _) ?_, rfl, q _ hf⟩
  exact ⟨z, us, r, ⟨_, Heap.get?_push_size _ rfl, rfl, _, rfl⟩⟩
theorem pe_lst (h : PA X es t) : PE X (.List es pos) (tLst t) := by
  intro pins s σ H Q I hq
  refine wpAny_List_spliced (thn (h pos pins s σ H _ I hq) fun us s1 ⟨xs, H1, I1, r, z, q⟩ => ⟨by rw [← r.length]; exact z, ?_⟩)
  have hf : H1 s1.heap.objs.size = none := I1.hok.fresh (Nat.le_refl _)
  refine ⟨.ref s1.heap.objs.size, upd H1 s1.heap.objs.size (.lst xs), I1.laid (t' := s1.toks) (fun b u e => Heap.get?_push_of_some _ e) (Nat.le_refl _) ?_, rfl, q _ hf⟩
  exact ⟨z, us, 0, r, Heap.get?_push_size _ rfl⟩
end
abbrev Sp := List V → Hp → VK → XK → Prop
abbrev CXT := List Env → Hp → Shared → XK → Value → Shared → Prop
structure Env0 (P : Program) (w : World) (K : PySem.W.Frag) (mg : Str → Option Value) (base : Heap) (A : Around) (outer : List Env) (s : Shared) (H : Hp) : Prop where
  frames : A.frames = some outer
  mod : Mod K mg base
  bs : ∀ b o, base.get? b = some o → s.heap.get? b = some o ∧ H b = none
  bsz : base.objs.size ≤ s.heap.objs.size
  funs : s.heap.FunFrames base outer
  frf : ∀ b ∈ frs outer, H b = none
  hok : HOk P w H s.heap
  bare : AllBare s.gens
  tk : 0 < s.toks
def CE (outer : List Env) (P : Program) (w : World) (H : Hp) (s : Shared) (Q : VK) (u : Value) (s' : Shared) : Prop :=
  ∃ v H', 0 < s'.toks ∧ s'.os = s.os ∧ AllBare s'.gens ∧ Un (frs outer) [] H H' s.heap s'.heap ∧ HOk P w H' s'.heap ∧ RelV v u ∧ Q v H'
def CR (CX : CXT) (outer : List Env) (P : Program) (w : World) (H : Hp) (s : Shared) (Q : VK) (E : XK) (r : Result) (s' : Shared) : Prop :=
  match r with
  | .ok (.ret u) => CE outer P w H s Q u s'
  | .ok _ => False
  | .error e => CX outer H s E e s'
structure FnOk (P : Program) (w : World) (K : PySem.W.Frag) (mg : Str → Option Value) (base : Heap) (CX : CXT) (k : Nat) (f : Addr) (fd : FuncData) (ps : List Str) (sp : Sp) : Prop where
  len : ∀ vs H Q E, sp vs H Q E → vs.length = ps.length
  run : ∀ (A : Around) (outer : List Env) (s : Shared) (H : Hp) (args : Args) (us : List Value) (vs : List V) (Q : VK) (E : XK), Room k A → Env0 P w K mg base A outer s H → BindsTo s fd args (ps.zip us) → Vals vs us → sp vs H Q E →
    codeAny (model P w) A (.call (.ref f) args) (CR CX outer P w H s Q E) s
section
variable {X : Cx} {pins : List (Addr × Obj)} {σ : St} {H : Hp} {s s' : Shared}
theorem Inv.env0 (I : Inv X pins σ H s) : Env0 X.prog X.w X.K X.mg X.base X.A X.stack s H :=
  ⟨I.ok.frames, I.ok.mod, I.bs, Nat.le_trans I.ok.bsz I.sz, I.stack, I.stkFree, I.hok, I.bare, I.tk⟩
theorem Inv.after {Q : VK} {u : Value} (I : Inv X pins σ H s) (h : CE X.stack X.prog X.w H s Q u s') : EP X pins σ Q u s' := by
  obtain ⟨v, H', ht, os, bare, un, hok, r, q⟩ := h
  obtain ⟨hh, g, d, t, os'⟩ := s'
  obtain rfl : os' = s.os := os
  exact ⟨v, H', I.call (h' := hh) (g' := g) (d' := d) (t' := t) (ch := []) un hok bare (fun b z => absurd z (by simp)) ht, r, q⟩
end
def tCall (sp : Sp) (dvs : List V) (E : XK) (t : TA) : TE := fun σ H Q => t σ H fun vs H1 => sp (vs ++ dvs) H1 Q E
def Binds (K : PySem.W.Frag) (fd : FuncData) (ps : List Str) (ds : List Value) : Prop :=
  ∀ (s : Shared) (us : List Value), K.In s.heap → (us ++ ds).length = ps.length → BindsTo s fd ⟨us, []⟩ (ps.zip (us ++ ds))
theorem Binds.all {K : PySem.W.Frag} {fd : FuncData} {ps : List Str} (h : ∀ us : List Value, us.length = ps.length → bindArgs fd ⟨us, []⟩ = pure (ps.zip us)) : Binds K fd ps [] := fun s us _ hl => by
  rw [List.append_nil] at hl ⊢
  exact .of_eq (h us hl)
def Passes (CX : CXT) (X : Cx) (E : XK) : Prop := ∀ (pins : List (Addr × Obj)) (σ : St) (H : Hp) (s : Shared) (e : Value) (s' : Shared), Inv X pins σ H s → CX X.stack H s E e s' → X.xe e s'
section
variable {X : Cx} {CX : CXT} {k : Nat} {f C : Addr} {fd : FuncData} {ps : List Str} {sp : Sp} {dvs : List V} {ds : List Value} {E : XK} {x m : Str} {p pos apos : Pos} {e o : Expr} {es : List Expr} {ta : TE} {t : TA}
theorem run_fn {pins : List (Addr × Obj)} {σ : St} {H : Hp} {s : Shared} {Q : VK} {us : List Value} {vs : List V} (F : FnOk X.prog X.w X.K X.mg X.base CX k f fd ps sp) (hr : Room k X.A) (hb : Binds X.K fd ps ds) (hd : Vals dvs ds) (hx : Passes CX X E)
    (I : Inv X pins σ H s) (r : Vals vs us) (h : sp (vs ++ dvs) H Q E) : wpAny (model X.prog X.w) X.A (call (.ref f) us) (EP X pins σ Q) X.xe s := by
  have r2 : Vals (vs ++ dvs) (us ++ ds) := r.append hd
  have hl : (us ++ ds).length = ps.length := by rw [← r2.length]; exact F.len _ _ _ _ h
  refine wpAny_call (codeAny_mono (F.run X.A X.stack s H ⟨us, []⟩ (us ++ ds) (vs ++ dvs) Q E hr I.env0 (hb s us I.kIn hl) r2 h) fun r s' hq => ?_)
  cases r with
  | error e => exact hx pins σ H s e s' I hq
  | ok fl =>
    cases fl with
    | ret u => exact I.after hq
    | next => exact False.elim hq
    | brk => exact False.elim hq
    | cont => exact False.elim hq
theorem pe_call (F : FnOk X.prog X.w X.K X.mg X.base CX k f fd ps sp) (hr : Room k X.A) (hg : Gl X x) (hm : X.mg x = some (.ref f)) (hk : PySem.W.keepIn X.K (.ref f) = true) (hb : Binds X.K fd ps ds) (hd : Vals dvs ds) (hx : Passes CX X E)
    (ha : PA X (e :: es) t) (hdb : (x == ("__debug__" : Str)) = false := by decide) (he : starEach (e :: es) X.env = (false, eval e X.env) :: starEach es X.env := by rfl) (hpl : (backTo pos (starEach es X.env)).any (·.1) = false := by rfl) :
    PE X (.Call (.Name x p) (e :: es) [] pos) (tCall sp dvs E t) := by
  intro pins s σ H Q I h
  refine wpAny_Call_Name_kw (ld_glob I hg hm ?_ hdb)
  refine PySem.W.callWith_K (h₀ := X.base) I.ok.mod.kin hk (thn (ha pos pins s σ H _ I h) fun us s1 ⟨vs, H1, I1, r, q⟩ => ⟨I1.kIn, ?_⟩) he hpl
  exact run_fn F hr hb hd hx I1 r q
end
section
variable {X : Cx} {CX : CXT} {k : Nat} {f C : Addr} {fd : FuncData} {ps ks : List Str} {sp : Sp} {E : XK} {x m : Str} {p pos apos kpos : Pos} {e o : Expr} {es : List Expr} {kws : List Keyword} {te ta : TE} {t tk : TA} {nm : Option Str}
variable {g : List Value → List Value → List Value} {gV : List V → List V → List V}
end
structure FnScope (N P : List Str) (sc : Scope) : Prop where
  kind : sc.kind = .function
  co : sc.isCoroutine = false
  gen : sc.isGenerator = false
  nd : N.Nodup
  pre : N.take P.length = P
  par : ∀ x ∈ P, sc.names.lookup x = some .local ∨ sc.names.lookup x = some .cell
  nofree : ∀ y ∈ sc.names, y.2 ≠ .free
theorem bindL_out {kindOf : Str → Option NameKind} {x : Str} : ∀ {binds : List (Str × Value)} {m : Str → Option Value}, (∀ v, (x, v) ∉ binds) → bindL kindOf binds m x = m x
  | [], _, _ => rfl
  | (n, v) :: r, m, h => by
    unfold bindL
    rw [bindL_out fun w hw => h w (List.mem_cons_of_mem _ hw)]
    split
    · have : x ≠ n := by rintro rfl; exact h v List.mem_cons_self
      simp [this]
    · rfl
theorem bindC_out {kindOf : Str → Option NameKind} {x : Str} : ∀ {binds : List (Str × Value)} {m : Str → Option Value}, (∀ v, (x, v) ∉ binds) → bindC kindOf binds m x = m x
  | [], _, _ => rfl
  | (n, v) :: r, m, h => by
    unfold bindC
    rw [bindC_out fun w hw => h w (List.mem_cons_of_mem _ hw)]
    split
    · rfl
    · have : x ≠ n := by rintro rfl; exact h v List.mem_cons_self
      simp [this]
theorem bindL_get {kindOf : Str → Option NameKind} {x : Str} {v : Value} : ∀ {P : List Str} {vs : List Value} {i : Nat} {m : Str → Option Value}, P.Nodup → P[i]? = some x → vs[i]? = some v → kindOf x = some .local →
    bindL kindOf (P.zip vs) m x = some v
  | [], _, _, _, _, h, _, _ => by simp at h
  | _ :: _, [], _, _, _, _, h, _ => by simp at h
  | p :: P, w :: vs, 0, m, nd, h1, h2, hk => by
    simp at h1 h2; subst h1; subst h2
    show bindL kindOf ((p, w) :: P.zip vs) m p = _
    unfold bindL
    rw [bindL_out fun v hv => (List.nodup_cons.mp nd).1 (List.of_mem_zip hv).1, if_pos hk]
    simp
  | p :: P, w :: vs, i + 1, m, nd, h1, h2, hk => by
    show bindL kindOf ((p, w) :: P.zip vs) m x = _
    unfold bindL
    exact bindL_get (i := i) (List.nodup_cons.mp nd).2 (by simpa using h1) (by simpa using h2) hk
theorem bindC_get {kindOf : Str → Option NameKind} {x : Str} {v : Value} : ∀ {P : List Str} {vs : List Value} {i : Nat} {m : Str → Option Value}, P.Nodup → P[i]? = some x → vs[i]? = some v → kindOf x ≠ some .local →
    bindC kindOf (P.zip vs) m x = some v
  | [], _, _, _, _, h, _, _ => by simp at h
  | _ :: _, [], _, _, _, _, h, _ => by simp at h
  | p :: P, w :: vs, 0, m, nd, h1, h2, hk => by
    simp at h1 h2; subst h1; subst h2
    show bindC kindOf ((p, w) :: P.zip vs) m p = _
    unfold bindC
    rw [bindC_out fun v hv => (List.nodup_cons.mp nd).1 (List.of_mem_zip hv).1, if_neg hk]
    simp
  | p :: P, w :: vs, i + 1, m, nd, h1, h2, hk => by
    show bindC kindOf ((p, w) :: P.zip vs) m x = _
    unfold bindC
    exact bindC_get (i := i) (List.nodup_cons.mp nd).2 (by simpa using h1) (by simpa using h2) hk
def start (N : List Str) (vs : List V) : St := vs.map some ++ List.replicate (N.length - vs.length) none
def cxOf (CX : CXT) (P : Program) (w : World) (K : PySem.W.Frag) (mg : Str → Option Value) (base : Heap) (N : List Str) (qual : Str) (scope : Scope) (f : Addr) (cd : Value) (A : Around) (outer : List Env) (s : Shared) (H : Hp) (E : XK) : Cx where
  prog := P
  w := w
  K := K
  mg := mg
  base := base
  A := A.deeper (envOfC qual scope s.heap.objs.size f cd)
  N := N
  s₀ := s
  H₀ := H
  env := envOfC qual scope s.heap.objs.size f cd
  outer := outer
  stack := envOfC qual scope s.heap.objs.size f cd :: outer
  ex := []
  calm := true
  fn := fun _ => true
  pn := []
  xe := fun e s' => wpAny (model P w) (A.deeper (envOfC qual scope s.heap.objs.size f cd)) (leaving (envOfC qual scope s.heap.objs.size f cd) e) (fun _ s'' => CX outer H s E e s'') (fun e' s'' => CX outer H s E e' s'') s'
theorem cell_has {sc : Scope} {n : Nat} {x : Str} (h : sc.names.lookup x = some .cell) : ∃ c, (cellsFrom n sc.names []).lookup x = some c := by
  have q := PySem.W.cellsFrom_some sc.names n [] (.inl h)
  exact Option.isSome_iff_exists.mp q
theorem inv_start {CX : CXT} {P : Program} {w : World} {K : PySem.W.Frag} {mg : Str → Option Value} {base : Heap} {N ps : List Str} {qual : Str} {scope : Scope} {f : Addr} {cd : Value} {A : Around} {outer : List Env} {s s1 : Shared} {H : Hp} {E : XK} {us : List Value} {vs : List V}
    (S : FnScope N ps scope) (hd : A.handled = none) (e0 : Env0 P w K mg base A outer s H) (hl : vs.length = ps.length) (r : Vals vs us)
    (x : InCallC s s.heap.objs.size (bindL (envOfC qual scope s.heap.objs.size f cd).kindOf (ps.zip us) fun _ => none) (cellsFrom (s.heap.objs.size + 1) scope.names []) (bindC (envOfC qual scope s.heap.objs.size f cd).kindOf (ps.zip us) fun _ => none) s1) (ht : 0 < s1.toks) :
    Inv (cxOf CX P w K mg base N qual scope f cd A outer s H E) [] (start N vs) H s1 := by
  have hpl : ps.length ≤ N.length := by have := congrArg List.length S.pre; rw [List.length_take] at this; omega
  obtain ⟨h1, tk, rfl, hk⟩ := x.done
  have noA : ∀ b : Addr, b ∉ (cxOf CX P w K mg base N qual scope f cd A outer s H E).ex := fun b z => absurd (show b ∈ ([] : List Addr) from z) (by simp)
  refine ⟨⟨e0.mod, S.kind, rfl, rfl, Nat.le_refl _, fun y z c h1 h2 => ?_, fun y hy => ?_, fun y c _ h => ?_, fun _ => hd, Around.frames_deeper e0.frames, .inr ⟨rfl, rfl⟩, fun b z => absurd z (noA b), e0.bs, e0.bsz, fun b _ _ => noA b, fun b z => absurd z (noA b), e0.funs, e0.frf⟩,
    rfl, e0.bare, Un.kept hk, ⟨_, x.toInCall.ns, fun i y v h1 h2 h3 => ?_⟩, fun y c h => ⟨_, x.cell y c h⟩, e0.hok.fresh (Nat.le_refl _), fun y c h => ?_, fun p hp => absurd (show p ∈ ([] : List (Addr × Obj)) from hp) (by simp), e0.hok.kept hk, ?_, ht⟩
  · exact name_of_addr x.apart (PySem.mem_of_lookup h1) (PySem.mem_of_lookup h2)
  · have hy : scope.names.lookup y = some .cell ∨ scope.names.lookup y = some .free := hy
    rcases hy with hy | hy
    · exact cell_has hy
    · exact absurd rfl (S.nofree _ (PySem.mem_of_lookup hy))
  · exact Nat.le_of_lt (x.above y c (PySem.mem_of_lookup h))
  · have hi : i < vs.length := by
      unfold start at h2
      by_cases hi : i < vs.length
      · exact hi
      · rw [List.getElem?_append_right (by simpa using hi)] at h2
        rw [List.getElem?_replicate] at h2
        split at h2 <;> cases h2
    have ha : vs[i]? = some v := by
      unfold start at h2
      rw [List.getElem?_append_left (by simpa using hi), List.getElem?_map] at h2
      cases e : vs[i]? with
      | none => rw [e] at h2; cases h2
      | some a => rw [e] at h2; cases h2; rfl
    obtain ⟨u, hu, rv⟩ := r.get ha
    have hp : ps[i]? = some y := by
      rw [← S.pre, List.getElem?_take_of_lt (by omega)]; exact h1
    have ndP : ps.Nodup := by rw [← S.pre]; exact S.nd.sublist (List.take_sublist _ _)
    refine ⟨u, rv, ?_⟩
    rcases S.par y (List.mem_of_getElem? hp) with k | k
    · exact .inl ⟨k, bindL_get ndP hp hu k⟩
    · obtain ⟨c, e⟩ := cell_has (n := s.heap.objs.size + 1) k
      refine .inr ⟨.inl k, c, e, ?_⟩
      have q := x.cell y c e
      rw [bindC_get ndP hp hu (by show scope.names.lookup y ≠ _; rw [k]; decide)] at q
      exact q
  · exact e0.hok.fresh (Nat.le_of_lt (x.above y c (PySem.mem_of_lookup h)))
  · unfold start
    show _ = N.length
    rw [List.length_append, List.length_map, List.length_replicate]
    omega
theorem fn_of {CX : CXT} {P : Program} {w : World} {K : PySem.W.Frag} {mg : Str → Option Value} {base : Heap} {k : Nat} {f : Addr} {name qual : Str} {params : Arguments} {body : List Stmt} {scope : Scope} {dV kV doc pm cdv ct oc : Value} {an od : Option Addr}
    {osl : Array (Option Value)} {N ps : List Str} {sp : Sp} (lk : K.lookup f = some ⟨oc, od, .func (PySem.W.fnOf name qual params body scope dV kV doc pm an cdv ct), osl⟩) (hcd : PySem.W.codeIn K cdv qual = true) (S : FnScope N ps scope)
    (len : ∀ vs H Q E, sp vs H Q E → vs.length = ps.length)
    (hbody : ∀ (A : Around) (outer : List Env) (s : Shared) (H : Hp) (vs : List V) (Q : VK) (E : XK), Room k (A.deeper (envOfC qual scope s.heap.objs.size f cdv)) → sp vs H Q E →
      ∃ t, PSs (cxOf CX P w K mg base N qual scope f cdv A outer s H E) body t ∧ t { nx := fun _ H' => Q .non H', rt := Q } (start N vs) H) :
    FnOk P w K mg base CX (k + 1) f (PySem.W.fnOf name qual params body scope dV kV doc pm an cdv ct) ps sp := by
  refine ⟨len, fun A outer s H args us vs Q E hr e0 hb r hsp => ?_⟩
  have hl := len _ _ _ _ hsp
  have KX : K.In s.heap := e0.mod.kin.keeps fun b o e => (e0.bs b o e).1
  have lim : s.heap.NoLimit := e0.mod.nolimit.keeps fun b o e => (e0.bs b o e).1
  have hkind : ∀ y ∈ ps.zip us, scope.names.lookup y.1 = some .local ∨ (scope.names.lookup y.1 = some .cell ∧ ((cellsFrom (s.heap.objs.size + 1) scope.names []).lookup y.1).isSome = true) := fun ⟨n, v⟩ hy => by
    rcases S.par n (List.of_mem_zip hy).1 with q | q
    · exact .inl q
    · exact .inr ⟨q, PySem.W.cellsFrom_some _ _ _ (.inl q)⟩
  refine codeAny_call_function hr.depth (KX _ _ lk) rfl S.co S.gen rfl (PySem.W.codeRec_of KX hcd) (hb _ _ _ _ ?_)
  refine wpAny_with_toks (n := 1) e0.tk (wpAny_newFunctionEnv_cells S.kind hkind fun env he s1 x htk => ?_)
  subst he
  refine ⟨lim.keeps x.toInCall.keep, codeAny_func ?_⟩
  obtain ⟨t, ht, hq⟩ := hbody A outer s H vs Q E (hr.deeper _) hsp
  have I : Inv (cxOf CX P w K mg base N qual scope f cdv A outer s H E) [] (start N vs) H s1 := inv_start S hr.hd e0 hl r x htk
  refine wpAny_mono (ht [] s1 (start N vs) H _ I hq) (fun fl s' hs => ?_) fun e s' hs => hs
  have fin : ∀ {σ' : St} {H' : Hp} {v : V} {u : Value}, Inv (cxOf CX P w K mg base N qual scope f cdv A outer s H E) [] σ' H' s' → RelV v u → Q v H' → CE outer P w H s Q u s' :=
    fun {σ' H' v u} J rv q => ⟨v, H', J.tk, J.os, J.bare, J.base, J.hok, rv, q⟩
  cases fl with
  | ret u =>
    obtain ⟨v, σ', H', J, rv, q⟩ := hs
    exact fin J rv q
  | next =>
    obtain ⟨σ', H', J, q⟩ := hs
    exact fin (v := V.non) (u := Value.none) J rfl q
  | brk =>
    obtain ⟨_, _, _, q⟩ := hs
    exact False.elim q
  | cont =>
    obtain ⟨_, _, _, q⟩ := hs
    exact False.elim q
end L2
namespace L2
open PySem PySem.Spec PyProof.Rows
section
variable {X : Cx} {x : Str} {p pos : Pos} {e : Expr} {es : List Expr} {t : TA} {id T : String} {r : List V → Hp → VK → Prop}
def tCB (r : List V → Hp → VK → Prop) (t : TA) : TE := fun σ H Q => t σ H fun vs H1 => r vs H1 Q
theorem pe_callB (hc : CallR X (.builtin id) r) (hg : Gl X x) (hm : X.mg x = none) (hv : bootBuiltins x = some (.builtin id)) (ha : PA X (e :: es) t) (hn : x ≠ "__name__" := by decide) (hdb : (x == ("__debug__" : Str)) = false := by decide)
    (he : starEach (e :: es) X.env = (false, eval e X.env) :: starEach es X.env := by rfl) (hpl : (backTo pos (starEach es X.env)).any (·.1) = false := by rfl) : PE X (.Call (.Name x p) (e :: es) [] pos) (tCB r t) := by
  intro pins s σ H Q I h
  refine wpAny_Call_Name_kw (ld_blt I hg hm hv ?_ hn hdb)
  exact PyProof.Rows.callWith_builtin1 (thn (ha pos pins s σ H _ I h) fun us s1 ⟨vs, H1, I1, r1, q1⟩ => hc pins s1 σ H1 vs us Q I1 r1 q1) he hpl
theorem pe_callTy (hc : CallR X (.type T) r) (hg : Gl X x) (hm : X.mg x = none) (hv : bootBuiltins x = some (.type T)) (ha : PA X (e :: es) t) (hn : x ≠ "__name__" := by decide) (hdb : (x == ("__debug__" : Str)) = false := by decide)
    (he : starEach (e :: es) X.env = (false, eval e X.env) :: starEach es X.env := by rfl) (hpl : (backTo pos (starEach es X.env)).any (·.1) = false := by rfl) : PE X (.Call (.Name x p) (e :: es) [] pos) (tCB r t) := by
  intro pins s σ H Q I h
  refine wpAny_Call_Name_kw (ld_blt I hg hm hv ?_ hn hdb)
  exact PyProof.Rows.callWith_type1 (thn (ha pos pins s σ H _ I h) fun us s1 ⟨vs, H1, I1, r1, q1⟩ => hc pins s1 σ H1 vs us Q I1 r1 q1) he hpl
end
end L2
namespace HT
open PySem PyProof.Rows
section
open PySem.SeqAt
open PySem.AutoSeq1 (wpAny_loadPart')
open PySem.MeetsSeq PySem.MeetsSeq2 PySem.MeetsSeq3
end
section
variable {prog : Program} {w : World} {A : Around} {E : Value → Shared → Prop} {s : Shared}
theorem cat_tup {t b : Addr} {vs ws : List Value} {Q : Value → Shared → Prop} (ht : IsTup s.heap t vs.toArray) (hb : IsTup s.heap b ws.toArray) (hv : vs ≠ [])
    (h1 : ws = [] → Q (.ref t) s) (h2 : ws ≠ [] → Q (.ref s.heap.objs.size) { s with heap := s.heap.push { cls := .type "tuple", data := .seq (vs ++ ws).toArray } })
    (hsz : vs.length + ws.length ≤ sizeLine) : wpAny (model prog w) A (binaryOp .Add (.ref t) (.ref b)) Q E s := by
  obtain ⟨⟨cls, dd, data, sl⟩, ho, hc, n, hd⟩ := id ht
  obtain ⟨⟨cls2, dd2, data2, sl2⟩, ho2, hc2, n2, hd2⟩ := id hb
  simp only at hc hd hc2 hd2
  subst hc hd hc2 hd2
  have e : vs.toArray ++ ws.toArray = (vs ++ ws).toArray := by simp
  by_cases hw : ws = []
  · exact concat_meets ⟨_, ho, rfl⟩ ⟨_, ho2, rfl⟩ noFill_tuple_add seq_tuple_add PySem.F.slot_tuple_add PySem.F.entry_tuple_add (PySem.F.args_tuple_add_2 _ _)
      (tuple_addW1 t b vs.toArray ws.toArray n n2 dd dd2 sl sl2 (by simpa using hv) (by simp [hw])) ⟨ho, ho2, h1 hw⟩
  · refine concat_meets ⟨_, ho, rfl⟩ ⟨_, ho2, rfl⟩ noFill_tuple_add seq_tuple_add PySem.F.slot_tuple_add PySem.F.entry_tuple_add (PySem.F.args_tuple_add_2 _ _)
      (tuple_addW2 t b vs.toArray ws.toArray n n2 dd dd2 sl sl2 (by simpa using hv) (by simpa using hw) (by rw [List.size_toArray, List.size_toArray]; exact hsz)) ⟨ho, ho2, ?_⟩
    rw [e]
    exact h2 hw
def sIx (n d : Nat) : Option Int → Nat
  | none => d
  | some v => if v < 0 then (v + (n : Int)).toNat else min v.toNat n
theorem sIx_nat (n d k : Nat) : sIx n d (some (k : Int)) = min k n := by
  show (if (k : Int) < 0 then ((k : Int) + (n : Int)).toNat else min (k : Int).toNat n) = min k n
  rw [if_neg (by omega), Int.toNat_natCast]
theorem sIx_le (n d : Nat) (hd : d ≤ n) (o : Option Int) : sIx n d o ≤ n := by
  cases o with
  | none => exact hd
  | some v =>
    show (if v < 0 then (v + (n : Int)).toNat else min v.toNat n) ≤ n
    by_cases hv : v < 0
    · rw [if_pos hv]; omega
    · rw [if_neg hv]; exact Nat.min_le_right _ _
theorem clip_eq (v : Int) (n d : Nat) : (if v < 0 then max (v + (n : Int)) 0 else min v (n : Int)) = ((sIx n d (some v) : Nat) : Int) := by
  show (if v < 0 then max (v + (n : Int)) 0 else min v (n : Int)) = (((if v < 0 then (v + (n : Int)).toNat else min v.toNat n) : Nat) : Int)
  by_cases hv : v < 0
  · simp only [if_pos hv]; omega
  · simp only [if_neg hv]; omega
theorem adjust_gen (lo hi : Option Int) (n : Nat) : Builtin.Slice.sliceAdjust lo hi 1 (n : Int) = (((sIx n 0 lo : Nat) : Int), ((sIx n n hi : Nat) : Int)) := by
  have h1 : ¬ ((1 : Int) < 0) := by omega
  unfold Builtin.Slice.sliceAdjust
  simp only [h1, if_false]
  refine Prod.ext ?_ ?_
  · cases lo with
    | none => rfl
    | some v => exact clip_eq v n 0
  · cases hi with
    | none => rfl
    | some v => exact clip_eq v n n
theorem places_gen (i j : Nat) : Builtin.Slice.slicePlaces (i : Int) (j : Int) 1 = j - i := by
  unfold Builtin.Slice.slicePlaces
  have h1 : (1 : Int) > 0 := by omega
  simp only [h1, if_true, Int.ediv_one]
  split <;> omega
theorem slicePart_ {v : Value} {o : Option Int} {Q : Option Int → Shared → Prop} (p : IsPart v o) (h : Q o s) : wpAny (model prog w) A (Builtin.Slice.slicePartIndex v) Q E s := by
  cases p with
  | none => exact slicePart_none h
  | int i t => exact slicePart_int h
theorem sliceApplied_gen {sl : Addr} {vl vu : Value} {lo hi : Option Int} {n : Nat} {Q : Int × Int × Nat → Shared → Prop} (hs : s.heap.IsSliceOf sl vl vu .none) (pl : IsPart vl lo) (pu : IsPart vu hi)
    (h : Q (((sIx n 0 lo : Nat) : Int), 1, sIx n n hi - sIx n 0 lo) s) : wpAny (model prog w) A (Builtin.Slice.sliceApplied (.ref sl) (pure (n : Int))) Q E s := by
  obtain ⟨os, hos, hcs, hds⟩ := id hs
  unfold Builtin.Slice.sliceApplied Builtin.Slice.sliceFields
  refine wpAny_bind (wpAny_bind (wpAny_field hos hds (x := vl) rfl (wpAny_bind (wpAny_field hos hds (x := vu) rfl (wpAny_bind (wpAny_field hos hds (x := .none) rfl (wpAny_pure ?_)))))))
  refine wpAny_bind (slicePart_none ?_)
  show wpAny _ _ (if ((1 : Int) == 0) = true then _ else _) _ _ s
  rw [if_neg (by decide)]
  refine wpAny_bind (slicePart_ pl (wpAny_bind (slicePart_ pu (wpAny_bind (wpAny_pure ?_)))))
  show wpAny _ _ (match Builtin.Slice.sliceAdjust lo hi 1 (n : Int) with | (lo, hi) => pure (lo, (1 : Int), Builtin.Slice.slicePlaces lo hi 1)) _ _ s
  rw [adjust_gen lo hi n]
  show wpAny _ _ (pure (((sIx n 0 lo : Nat) : Int), (1 : Int), Builtin.Slice.slicePlaces ((sIx n 0 lo : Nat) : Int) ((sIx n n hi : Nat) : Int) 1)) _ _ s
  rw [places_gen]
  exact wpAny_pure h
theorem pick_gen (xs : Array Value) (i k : Nat) : ((List.range k).filterMap fun (m : Nat) => xs[((i : Int) + (m : Int) * 1).toNat]?).toArray = ((xs.toList.drop i).take k).toArray := by
  have e : (fun (m : Nat) => xs[((i : Int) + (m : Int) * 1).toNat]?) = fun m => xs[i + m]? := by
    funext m
    have : ((i : Int) + (m : Int) * 1).toNat = i + m := by omega
    rw [this]
  rw [e]
  have := pick_run xs i k
  rw [List.filterMap_map] at this
  have e2 : ((fun x => xs[x]?) ∘ fun x => i + x) = fun m => xs[i + m]? := rfl
  rw [e2] at this
  rw [this]
theorem getItem_tuple_cut {t sl : Addr} {items : Array Value} {vl vu : Value} {lo hi : Option Int} {Q : Value → Shared → Prop} (ht : IsTup s.heap t items) (hs : s.heap.IsSliceOf sl vl vu .none) (pl : IsPart vl lo) (pu : IsPart vu hi)
    (hw : ¬ (sIx items.size 0 lo = 0 ∧ sIx items.size items.size hi = items.size))
    (h : Q (.ref s.heap.objs.size) { s with heap := s.heap.push { cls := .type "tuple", data := .seq ((items.toList.drop (sIx items.size 0 lo)).take (sIx items.size items.size hi - sIx items.size 0 lo)).toArray } })
    (hsz : items.size ≤ sizeLine) : wpAny (model prog w) A (getItem (.ref t) (.ref sl)) Q E s := by
  have htake : sizeOk (.seq ((items.toList.drop (sIx items.size 0 lo)).take (sIx items.size items.size hi - sIx items.size 0 lo)).toArray) := by
    show ((items.toList.drop (sIx items.size 0 lo)).take (sIx items.size items.size hi - sIx items.size 0 lo)).toArray.size ≤ sizeLine
    rw [List.size_toArray, List.length_take, List.length_drop, Array.length_toList]
    omega
  have hj : sIx items.size items.size hi ≤ items.size := sIx_le _ _ (Nat.le_refl _) hi
  obtain ⟨os, hos, hcs, hds⟩ := id hs
  have hTs : s.TypeIs (.ref sl) "slice" := ⟨os, hos, hcs⟩
  unfold getItem
  try with_reducible refine wpAny_holding ?_
  first | refine wpAny_bind (wpAny_pure ?_) | skip
  refine wpAny_bind (wpAny_sequenceKey ht.typeIs (by decide) ?_)
  refine wpAny_bind (wpAny_callSpecial?_slot (name := Str.ofString "__getitem__") ht.typeIs PyProof.Rows.slot_tuple_getitem
    (wpAny_call_entry PyProof.Rows.slot_tuple_getitem ht.typeIs entry_tuple_getitem ?_ (args_tuple_getitem _ _)))
  show wpAny _ _ (Builtin.Tuple.tupleItemsOf (.ref t) >>= _) _ _ s
  refine wpAny_bind (tupleItemsOf_ ht ?_)
  refine wpAny_bind (wpAny_typeOf hTs ?_)
  rw [if_pos (by decide)]
  refine wpAny_bind (sliceApplied_gen hs pl pu ?_)
  have hno : ¬ ((((sIx items.size 0 lo : Nat) : Int) == 0 && (1 : Int) == 1 && (sIx items.size items.size hi - sIx items.size 0 lo) == items.size) = true) := by
    intro q
    rw [Bool.and_eq_true, Bool.and_eq_true] at q
    have q1 : ((sIx items.size 0 lo : Nat) : Int) = 0 := eq_of_beq q.1.1
    have q2 : sIx items.size items.size hi - sIx items.size 0 lo = items.size := eq_of_beq q.2
    exact hw ⟨by omega, by omega⟩
  show wpAny _ _ (if (((sIx items.size 0 lo : Nat) : Int) == 0 && (1 : Int) == 1 && (sIx items.size items.size hi - sIx items.size 0 lo) == items.size) = true then _ else _) _ _ s
  rw [if_neg hno, pick_gen]
  first
    | exact wpAny_bind (m := Builtin.Tuple.tupleExact _) (wpAny_newObj_type (wpAny_pure ⟨_, rfl, wpAny_pure h⟩) htake)
    | exact wpAny_bind (m := Builtin.Tuple.tupleExact _) (wpAny_newObj_type (wpAny_bind (wpAny_pure (wpAny_pure ⟨_, rfl, wpAny_pure h⟩))) htake)
    | exact wpAny_bind (wpAny_bind (m := Builtin.Tuple.tupleExact _) (wpAny_newObj_type (wpAny_pure (wpAny_pure ⟨_, rfl, wpAny_pure h⟩)) htake))
    | exact wpAny_bind (wpAny_bind (m := Builtin.Tuple.tupleExact _) (wpAny_newObj_type (wpAny_pure ⟨_, rfl, wpAny_pure h⟩) htake))
end
end HT
namespace L2
open PySem PySem.Spec PyProof.Rows
abbrev TO := St → Hp → (Option Int → Hp → Prop) → Prop
def PO (X : Cx) (e : Option Expr) (t : TO) : Prop :=
  ∀ (pins : List (Addr × Obj)) (s : Shared) (σ : St) (H : Hp) (Q : Option Int → Hp → Prop), Inv X pins σ H s → t σ H Q →
    wpAny (model X.prog X.w) X.A (evalPart e X.env) (fun u s' => ∃ o H', Inv X pins σ H' s' ∧ IsPart u o ∧ Q o H') X.xe s
def tNoPart : TO := fun _ H Q => Q none H
def tPart (t : TE) : TO := fun σ H Q => t σ H fun x H1 => ∃ i, x = .int i ∧ Q (some i) H1
section
variable {X : Cx} {e : Expr} {te : TE} {lo hi : Option Expr} {tl th : TO} {pos p2 : Pos}
theorem po_none : PO X none tNoPart := by
  intro pins s σ H Q I h
  rw [evalPart_none]
  exact wpAny_pure ⟨none, H, I, .none, h⟩
theorem po_some (h : PE X e te) : PO X (some e) (tPart te) := by
  intro pins s σ H Q I hw
  rw [evalPart_some]
  refine thn (h pins s σ H _ I hw) fun u s1 ⟨x, H1, I1, r1, q1⟩ => ?_
  obtain ⟨i, rfl, q⟩ := q1
  obtain ⟨t, rfl⟩ := r1
  exact ⟨some i, H1, I1, .int i t, q⟩
def SlR (X : Cx) (r : V → Option Int → Option Int → Hp → VK → Prop) : Prop :=
  ∀ (pins : List (Addr × Obj)) (s : Shared) (σ : St) (H : Hp) (x : V) (v vl vu : Value) (lo hi : Option Int) (sl : Addr) (Q : VK), Inv X pins σ H s → RelV x v → s.heap.IsSliceOf sl vl vu .none → IsPart vl lo → IsPart vu hi → r x lo hi H Q →
    ∃ T id, typeLookup (.type T) "__getitem__" = pure (some (.builtin id)) ∧ s.TypeIs v T ∧ wpAny (model X.prog X.w) X.A (getItem v (.ref sl)) (EP X pins σ Q) X.xe s
theorem SlR.or {r r' : V → Option Int → Option Int → Hp → VK → Prop} (h : SlR X r) (h' : SlR X r') : SlR X (fun x lo hi H Q => r x lo hi H Q ∨ r' x lo hi H Q) := by
  intro pins s σ H x v vl vu lo hi sl Q I rx hs pl pu q
  rcases q with q | q
  · exact h pins s σ H x v vl vu lo hi sl Q I rx hs pl pu q
  · exact h' pins s σ H x v vl vu lo hi sl Q I rx hs pl pu q
def tSl (r : V → Option Int → Option Int → Hp → VK → Prop) (te : TE) (tl th : TO) : TE := fun σ H Q => te σ H fun x H1 => tl σ H1 fun l H2 => th σ H2 fun u H3 => r x l u H3 Q
theorem pe_slice {r : V → Option Int → Option Int → Hp → VK → Prop} (hr : SlR X r) (he : PE X e te) (hl : PO X lo tl) (hu : PO X hi th) : PE X (.Subscript e (.Slice lo hi none p2) pos) (tSl r te tl th) := by
  intro pins s σ H Q I h
  refine Subscript_ (thn (he pins s σ H _ I h) fun v s1 ⟨x, H1, I1, r1, q1⟩ => ?_)
  refine wpAny_Slice (thn (hl pins s1 σ H1 _ I1 q1) fun vl s2 ⟨l, H2, I2, pl, q2⟩ => thn (hu pins s2 σ H2 _ I2 q2) fun vu s3 ⟨u, H3, I3, pu, q3⟩ => ?_)
  rw [evalPart_none]
  refine wpAny_pure ?_
  have I4 : Inv X pins σ H3 { s3 with heap := s3.heap.push { cls := .type "slice", data := .fields #[vl, vu, .none] } } := I3.kept (t' := s3.toks) fun b ob q => Heap.get?_push_of_some _ q
  obtain ⟨T, id, hT, ht, hg⟩ := hr pins { s3 with heap := s3.heap.push { cls := .type "slice", data := .fields #[vl, vu, .none] } } σ H3 x v vl vu l u s3.heap.objs.size Q I4 r1 (Heap.IsSliceOf.new ..) pl pu q3
  show wpAny (model X.prog X.w) X.A (subscriptTail e (.Slice lo hi none p2) v (.ref s3.heap.objs.size)) (EP X pins σ Q) X.xe { s3 with heap := s3.heap.push { cls := .type "slice", data := .fields #[vl, vu, .none] } }
  exact tail_any (ops := [.ref s3.heap.objs.size, v]) ht hT hg (by with_unfolding_all rfl)
def cutV (xs : List V) (lo hi : Option Int) : List V := (xs.drop (HT.sIx xs.length 0 lo)).take (HT.sIx xs.length xs.length hi - HT.sIx xs.length 0 lo)
theorem cutV_length (xs : List V) (lo hi : Option Int) : (cutV xs lo hi).length ≤ xs.length := by
  unfold cutV
  rw [List.length_take, List.length_drop]
  omega
def rSlT (K : PySem.W.Frag) : V → Option Int → Option Int → Hp → VK → Prop := fun x lo hi H Q => ∃ a xs, x = .ref a ∧ SqT K H a xs ∧
  ¬ (HT.sIx xs.length 0 lo = 0 ∧ HT.sIx xs.length xs.length hi = xs.length) ∧ ∀ p, H p = none → Q (.ref p) (upd H p (.tup (cutV xs lo hi)))
theorem sl_tup : SlR X (rSlT X.K) := by
  intro pins s σ H x v vl vu lo hi sl Q I rx hs pl pu h
  obtain ⟨a, xs, rfl, hx, hw, q⟩ := h
  cases rx
  obtain ⟨its, r, ht, hz⟩ := I.tuple hx
  have hlen : its.toArray.size = xs.length := by rw [List.size_toArray]; exact r.length.symm
  refine ⟨"tuple", _, PyProof.Rows.slot_tuple_getitem.lookup, ht.typeIs, ?_⟩
  refine HT.getItem_tuple_cut ht hs pl pu (by rw [hlen]; exact hw) ?_ (by rw [hlen]; exact hz)
  rw [hlen]
  refine ⟨.ref s.heap.objs.size, _, I.laid (t' := s.toks) (o := .tup (cutV xs lo hi)) (fun b ob q => Heap.get?_push_of_some _ q) (Nat.le_refl _) ?_, rfl, q _ (I.hok.fresh (Nat.le_refl _))⟩
  exact ⟨Nat.le_trans (cutV_length xs lo hi) hz, _, (r.drop (HT.sIx xs.length 0 lo)).take (HT.sIx xs.length xs.length hi - HT.sIx xs.length 0 lo), IsTup.new _ _⟩
def rCatT (K : PySem.W.Frag) : R2 := fun x y H Q => ∃ a b xs ys, x = .ref a ∧ y = .ref b ∧ SqT K H a xs ∧ SqT K H b ys ∧ xs ≠ [] ∧ xs.length + ys.length ≤ sizeLine ∧
  (ys = [] → Q (.ref a) H) ∧ (ys ≠ [] → ∀ p, H p = none → Q (.ref p) (upd H p (.tup (xs ++ ys))))
theorem Vals.nil_iff {xs : List V} {us : List Value} (r : Vals xs us) : us = [] ↔ xs = [] := by
  cases r with
  | nil => simp
  | cons _ _ => simp
theorem op_catT : OpR X (binaryOp .Add) (rCatT X.K) := by
  intro pins s σ H x y v u Q I rx ry h
  obtain ⟨a, b, xs, ys, rfl, rfl, ha, hb, hx, hz, q1, q2⟩ := h
  cases rx
  cases ry
  obtain ⟨its, r1, p1, _⟩ := I.tuple ha
  obtain ⟨its2, r2, p2, _⟩ := I.tuple hb
  refine HT.cat_tup p1 p2 (fun z => hx (r1.nil_iff.mp z)) (fun z => ⟨.ref a, H, I, rfl, q1 (r2.nil_iff.mp z)⟩) (fun z => ?_) (by rw [← r1.length, ← r2.length]; exact hz)
  refine ⟨.ref s.heap.objs.size, _, I.laid (t' := s.toks) (o := .tup (xs ++ ys)) (fun b ob q => Heap.get?_push_of_some _ q) (Nat.le_refl _) ?_, rfl, q2 (fun w => z (r2.nil_iff.mpr w)) _ (I.hok.fresh (Nat.le_refl _))⟩
  exact ⟨by rw [List.length_append]; exact hz, _, r1.append r2, IsTup.new _ _⟩
end
end L2
namespace L2
open PySem PySem.Spec PyProof.Rows
def ixN (n : Nat) (i : Int) : Option Nat := if 0 ≤ i then (if i < n then some i.toNat else none) else if -(n : Int) ≤ i then some (i + n).toNat else none
def atI {α : Type} (xs : List α) (i : Int) : Option α := (ixN xs.length i).bind fun j => xs[j]?
theorem ixN_seq {n : Nat} {i : Int} {j : Nat} (h : ixN n i = some j) : seqIndex? i n = some j ∧ j < n ∧ -(n : Int) ≤ i ∧ i < n := by
  unfold ixN at h
  by_cases h0 : 0 ≤ i
  · rw [if_pos h0] at h
    by_cases h1 : i < n
    · rw [if_pos h1] at h
      have e : i.toNat = j := Option.some.inj h
      exact ⟨by rw [seqIndex_of h0 h1, e], by omega, by omega, h1⟩
    · rw [if_neg h1] at h; cases h
  · rw [if_neg h0] at h
    by_cases h1 : -(n : Int) ≤ i
    · rw [if_pos h1] at h
      have e : (i + n).toNat = j := Option.some.inj h
      exact ⟨by rw [seqIndex_neg (by omega) h1, e], by omega, h1, by omega⟩
    · rw [if_neg h1] at h; cases h
theorem atI_get {α : Type} {xs : List α} {i : Int} {v : α} (h : atI xs i = some v) : ∃ j, seqIndex? i xs.length = some j ∧ xs[j]? = some v ∧ j < xs.length ∧ -(xs.length : Int) ≤ i ∧ i < xs.length := by
  unfold atI at h
  cases e : ixN xs.length i with
  | none => rw [e] at h; cases h
  | some j =>
    rw [e] at h
    obtain ⟨h1, h2, h3, h4⟩ := ixN_seq e
    exact ⟨j, h1, h, h2, h3, h4⟩
theorem atI_nat {α : Type} {xs : List α} {j : Nat} {v : α} (h : xs[j]? = some v) : atI xs (j : Int) = some v := by
  have hj : j < xs.length := (List.getElem?_eq_some_iff.mp h).1
  have e : ixN xs.length (j : Int) = some j := by
    unfold ixN
    rw [if_pos (by omega), if_pos (by omega)]; simp
  unfold atI; rw [e]; exact h
theorem atI_last {α : Type} (xs : List α) (v : α) : atI (xs ++ [v]) (-1) = some v := by
  have hl : (xs ++ [v]).length = xs.length + 1 := by simp
  have e : ixN (xs ++ [v]).length (-1) = some xs.length := by
    unfold ixN
    rw [hl, if_neg (by decide), if_pos (by omega)]
    congr 1
    omega
  unfold atI
  rw [e]
  show (xs ++ [v])[xs.length]? = some v
  simp
def PlainIx (b : Expr) : Prop := ∀ o i, subscripted b false o i = operate [o, i] (getItem o i)
def IxR (X : Cx) (r : R2) : Prop :=
  ∀ (value slice : Expr) (pins : List (Addr × Obj)) (s : Shared) (σ : St) (H : Hp) (x y : V) (v u : Value) (Q : VK), Inv X pins σ H s → RelV x v → RelV y u → r x y H Q →
    subscripted slice false v u = operate [v, u] (getItem v u) → wpAny (model X.prog X.w) X.A (subscriptTail value slice v u) (EP X pins σ Q) X.xe s
def MtR (X : Cx) (id : String) (r : V → List V → Hp → VK → Prop) : Prop :=
  ∀ (pins : List (Addr × Obj)) (s : Shared) (σ : St) (H : Hp) (x : V) (xs : List V) (v : Value) (us : List Value) (Q : VK), Inv X pins σ H s → RelV x v → Vals xs us → r x xs H Q →
    wpAny (model X.prog X.w) X.A (call (.builtin id) (v :: us)) (EP X pins σ Q) X.xe s
section
variable {X : Cx} {a b : Expr} {ta tb : TE} {pos : Pos}
theorem IxR.or {r r' : R2} (h : IxR X r) (h' : IxR X r') : IxR X (fun x y H Q => r x y H Q ∨ r' x y H Q) := by
  intro value slice pins s σ H x y v u Q I rx ry q hs
  rcases q with q | q
  · exact h value slice pins s σ H x y v u Q I rx ry q hs
  · exact h' value slice pins s σ H x y v u Q I rx ry q hs
theorem pe_ix {r : R2} (hr : IxR X r) (ha : PE X a ta) (hb : PE X b tb) (hs : PlainIx b) : PE X (.Subscript a b pos) (tOp r ta tb) := by
  intro pins s σ H Q I h
  exact Subscript_ (binT ha hb I h fun v u s2 x y H2 I2 rx ry q => hr a b pins s2 σ H2 x y v u Q I2 rx ry q (hs _ _))
def rIxL (K : PySem.W.Frag) : R2 := fun x y H Q => ∃ p xs i v, x = .ref p ∧ y = .int i ∧ SqL K H p xs ∧ atI xs i = some v ∧ Q v H
def rIxT (K : PySem.W.Frag) : R2 := fun x y H Q => ∃ p xs i v, x = .ref p ∧ y = .int i ∧ SqT K H p xs ∧ atI xs i = some v ∧ Q v H
def rIxS : R2 := fun x y H Q => ∃ z i c, x = .str z ∧ y = .int i ∧ z.length ≤ sizeLine ∧ atI z.cps.toList i = some c ∧ Q (.str ⟨#[c]⟩) H
theorem ix_list : IxR X (rIxL X.K) := by
  intro value slice pins s σ H x y v u Q I rx ry h hs
  obtain ⟨p, xs, i, z, rfl, rfl, hq, he, q⟩ := h
  cases rx
  obtain ⟨t, rfl⟩ := ry
  obtain ⟨its, r, pl, hz⟩ := I.list hq
  obtain ⟨j, h1, h2, h3, h4, h5⟩ := atI_get he
  obtain ⟨w, ew, rw'⟩ := r.get h2
  have hl := r.length
  have hn := line63
  have fin : EP X pins σ Q w s := ⟨z, H, I, rw', q⟩
  by_cases h0 : 0 ≤ i
  · have hj : i.toNat = j := by
      rw [seqIndex_of h0 h5] at h1
      exact Option.some.inj h1
    exact item_listR pl.isList h0 (by omega) (by rw [hj]; simpa using ew) fin hs
  · have hj : (i + (its.toArray.size : Int)).toNat = j := by
      rw [seqIndex_neg (by omega) h4] at h1
      rw [List.size_toArray, ← hl]
      exact Option.some.inj h1
    exact subscriptTail_builtinR (x := w) pl.isList.typeIs slot_list_getitem.lookup
      (wpAny_getItem_list_neg (Q := fun r s' => r = w ∧ EP X pins σ Q r s') pl.isList (by omega) (by rw [List.size_toArray] <;> omega) (by omega) (by rw [hj]; simpa using ew) ⟨rfl, fin⟩) hs
theorem ix_tup : IxR X (rIxT X.K) := by
  intro value slice pins s σ H x y v u Q I rx ry h hs
  obtain ⟨p, xs, i, z, rfl, rfl, hq, he, q⟩ := h
  cases rx
  obtain ⟨t, rfl⟩ := ry
  obtain ⟨its, r, pl, hz⟩ := I.tuple hq
  obtain ⟨j, h1, h2, h3, h4, h5⟩ := atI_get he
  obtain ⟨w, ew, rw'⟩ := r.get h2
  have hl := r.length
  have hn := line63
  have fin : EP X pins σ Q w s := ⟨z, H, I, rw', q⟩
  exact subscriptTail_builtinR (x := w) pl.typeIs slot_tuple_getitem.lookup
    (getItem_tuple (j := j) (Q := fun r s' => r = w ∧ EP X pins σ Q r s') pl (by omega) (by omega) (by rw [List.size_toArray, ← hl]; exact h1) (by simpa using ew) ⟨rfl, fin⟩) hs
theorem ix_str : IxR X rIxS := by
  intro value slice pins s σ H x y v u Q I rx ry h hs
  obtain ⟨z, i, c, rfl, rfl, hz, he, q⟩ := h
  obtain ⟨t, rfl⟩ := rx
  obtain ⟨t', rfl⟩ := ry
  obtain ⟨j, h1, h2, h3, h4, h5⟩ := atI_get he
  have hl : z.cps.toList.length = z.length := by simp [Str.length]
  rw [hl] at h1 h4 h5
  have hn := line63
  exact tail_any (typeIs_str s z t) slot_str_getitem.lookup (getItem_str (c := c) (by
    have e1 : decide (i < -(2 ^ 63 : Int)) = false := decide_eq_false (by omega)
    have e2 : decide (i ≥ 2 ^ 63) = false := decide_eq_false (by omega)
    rw [e1, e2, Bool.or_false]) (by rw [h1]; simpa using h2) ⟨.str ⟨#[c]⟩, H, I.tok _, ⟨_, rfl⟩, q⟩) hs
def rIx (K : PySem.W.Frag) : R2 := fun x y H Q => rIxL K x y H Q ∨ rIxT K x y H Q ∨ rIxS x y H Q
theorem ix_seq : IxR X (rIx X.K) := ix_list.or (ix_tup.or ix_str)
theorem mapSeq_set (its : List Value) (n j : Nat) (u : Value) : Obj.mapSeq (·.setIfInBounds j u) { cls := .type "list", data := .seq its.toArray n } = { cls := .type "list", data := .seq (its.set j u).toArray n } := by
  simp [Obj.mapSeq]
theorem Inv.lst {pins : List (Addr × Obj)} {σ : St} {H : Hp} {s : Shared} {p : Addr} {xs : List V} (I : Inv X pins σ H s) (h : H p = some (.lst xs)) :
    ∃ (its : List Value) (n : Nat), Vals xs its ∧ s.heap.get? p = some { cls := .type "list", data := .seq its.toArray n } ∧ xs.length ≤ sizeLine := by
  obtain ⟨z, its, n, r, e⟩ := I.hok p _ h
  exact ⟨its, n, r, e, z⟩
theorem Inv.lstUpd {pins : List (Addr × Obj)} {σ : St} {H : Hp} {s : Shared} {p : Addr} {xs ys : List V} {its its' : List Value} {n n' : Nat} {f : Obj → Obj} (I : Inv X pins σ H s) (h : H p = some (.lst xs))
    (ho : s.heap.get? p = some { cls := .type "list", data := .seq its.toArray n }) (hf : f { cls := .type "list", data := .seq its.toArray n } = { cls := .type "list", data := .seq its'.toArray n' }) (r : Vals ys its') (hz : ys.length ≤ sizeLine) (t' : Nat) (ht : 0 < t' := by first | exact Nat.succ_pos _ | assumption | exact Inv.tk ‹_› | omega) :
    Inv X pins σ (upd H p (.lst ys)) { s with heap := s.heap.update p f, toks := t' } := by
  have e : (s.heap.update p f).get? p = some { cls := .type "list", data := .seq its'.toArray n' } := by
    rw [Heap.get?_update_self f ho (by rw [hf] <;> rfl), hf]
  refine I.write (x := p) (e := p) (by rw [h]; trivial) (.inl rfl) (fun b u hb q => (Heap.get?_update_other _ _ (Ne.symm hb)).trans q) ⟨_, e⟩ ?_
  exact ⟨hz, its', n', r, e⟩
def rSetL : V → V → V → Hp → (Hp → Prop) → Prop := fun o i v H Q => ∃ p xs k j, o = .ref p ∧ i = .int k ∧ H p = some (.lst xs) ∧ ixN xs.length k = some j ∧ Q (upd H p (.lst (xs.set j v)))
theorem set_list : PSet X rSetL := by
  intro pins s σ H o i v ov iv u Q I ro ri rv h
  obtain ⟨p, xs, k, j, rfl, rfl, hp, hj, q⟩ := h
  cases ro
  obtain ⟨t, rfl⟩ := ri
  obtain ⟨its, n, r, ho, hz⟩ := I.lst hp
  obtain ⟨h1, h2, h3, h4⟩ := ixN_seq hj
  have hl := r.length
  have hn := line63
  have I' : Inv X pins σ (upd H p (.lst (xs.set j v))) { s with heap := s.heap.update p (Obj.mapSeq (·.setIfInBounds j u)) } :=
    I.lstUpd hp ho (mapSeq_set its n j u) (r.set rv j) (by rw [List.length_set]; exact hz) s.toks
  by_cases h0 : 0 ≤ k
  · have hk : k.toNat = j := by
      rw [seqIndex_of h0 h4] at h1
      exact Option.some.inj h1
    exact PySem.W.ki_setAt ho h0 (by omega) (by rw [List.size_toArray, ← hl]; exact h4) (by rw [hk]; exact ⟨_, I', q⟩)
  · have hk : (k + (its.toArray.size : Int)).toNat = j := by
      rw [seqIndex_neg (by omega) h3] at h1
      rw [List.size_toArray, ← hl]
      exact Option.some.inj h1
    exact PySem.W.ki_setBack ho (by omega) (by rw [List.size_toArray, ← hl]; exact h3) (by omega) (by rw [hk]; exact ⟨_, I', q⟩)
theorem slice_bounds (lo hi : Option Int) (n : Nat) : (sliceBounds lo hi none n).1 = ((HT.sIx n 0 lo : Nat) : Int) ∧ (sliceBounds lo hi none n).2.1 = ((HT.sIx n n hi : Nat) : Int) ∧ (sliceBounds lo hi none n).2.2 = 1 := by
  refine ⟨?_, ?_, rfl⟩
  · cases lo with
    | none => simp [sliceBounds, HT.sIx]
    | some i =>
      simp only [sliceBounds, HT.sIx, Option.getD_none, show (1 : Int) > 0 by decide, if_true]
      by_cases h : i < 0
      · simp only [h, if_true] <;> omega
      · simp only [h, if_false] <;> omega
  · cases hi with
    | none => simp [sliceBounds, HT.sIx]
    | some i =>
      simp only [sliceBounds, HT.sIx, Option.getD_none, show (1 : Int) > 0 by decide, if_true]
      by_cases h : i < 0
      · simp only [h, if_true] <;> omega
      · simp only [h, if_false] <;> omega
theorem slicePick_cut (its : List Value) (lo hi : Option Int) : slicePick its.toArray lo hi none = ((its.drop (HT.sIx its.length 0 lo)).take (HT.sIx its.length its.length hi - HT.sIx its.length 0 lo)).toArray := by
  obtain ⟨h1, h2, h3⟩ := slice_bounds lo hi its.toArray.size
  unfold slicePick
  rw [h1, h2, h3]
  simp only [sliceRange_one, pick_run, List.size_toArray] <;> rfl
def rSlL (K : PySem.W.Frag) : V → Option Int → Option Int → Hp → VK → Prop := fun x lo hi H Q => ∃ a xs, x = .ref a ∧ SqL K H a xs ∧ ∀ p, H p = none → Q (.ref p) (upd H p (.lst (cutV xs lo hi)))
theorem sl_list : SlR X (rSlL X.K) := by
  intro pins s σ H x v vl vu lo hi sl Q I rx hs pl pu h
  obtain ⟨a, xs, rfl, hx, q⟩ := h
  cases rx
  obtain ⟨its, r, ht, hz⟩ := I.list hx
  have hlen := r.length
  refine ⟨"list", _, slot_list_getitem.lookup, ht.isList.typeIs, ?_⟩
  refine wpAny_getItem_list_slice ht.isList hs pl pu .none (by simp) ?_ (by rw [List.size_toArray] <;> omega)
  rw [slicePick_cut, ← hlen]
  refine ⟨.ref s.heap.objs.size, _, I.laid (t' := s.toks) (o := .lst (cutV xs lo hi)) (fun b ob q => Heap.get?_push_of_some _ q) (Nat.le_refl _) ?_, rfl, q _ (I.hok.fresh (Nat.le_refl _))⟩
  exact ⟨Nat.le_trans (cutV_length xs lo hi) hz, _, 0, (r.drop (HT.sIx xs.length 0 lo)).take (HT.sIx xs.length xs.length hi - HT.sIx xs.length 0 lo), Heap.get?_push_size _ rfl⟩
def flatV : V → Bool
  | .non => true
  | .bl _ => true
  | .int _ => true
  | .str _ => true
  | _ => false
def eqV : V → V → Bool
  | .non, .non => true
  | .bl a, .bl b => a == b
  | .bl a, .int b => (if a then 1 else 0) == b
  | .int a, .bl b => a == (if b then 1 else 0)
  | .int a, .int b => a == b
  | .str a, .str b => a == b
  | _, _ => false
theorem eqAt_V {A : Around} {s : Shared} {y x : V} {u v : Value} (ry : RelV y u) (rx : RelV x v) (fy : flatV y = true) (fx : flatV x = true) : SeqAt.EqAt A s u v (eqV y x) := by
  cases y with
  | non =>
    cases ry
    cases x with
    | non => cases rx; exact SeqAt.EqAt.same _
    | bl b => cases rx; exact SeqAt.EqAt.none_bool b
    | int b => obtain ⟨t, rfl⟩ := rx; exact SeqAt.EqAt.none_int b t
    | str b => obtain ⟨t, rfl⟩ := rx; exact SeqAt.EqAt.none_str b t
    | _ => exact absurd (show false = true from fx) Bool.false_ne_true
  | bl a =>
    cases ry
    cases x with
    | non => cases rx; exact SeqAt.EqAt.bool_none a
    | bl b => cases rx; exact SeqAt.EqAt.bool_bool a b
    | int b => obtain ⟨t, rfl⟩ := rx; exact SeqAt.EqAt.bool_int a b t
    | str b => obtain ⟨t, rfl⟩ := rx; exact SeqAt.EqAt.bool_str a b t
    | _ => exact absurd (show false = true from fx) Bool.false_ne_true
  | int a =>
    obtain ⟨t', rfl⟩ := ry
    cases x with
    | non => cases rx; exact SeqAt.EqAt.int_none a t'
    | bl b => cases rx; exact SeqAt.EqAt.int_bool a t' b
    | int b => obtain ⟨t, rfl⟩ := rx; exact SeqAt.EqAt.int_int a t' b t
    | str b => obtain ⟨t, rfl⟩ := rx; exact SeqAt.EqAt.int_str a t' b t
    | _ => exact absurd (show false = true from fx) Bool.false_ne_true
  | str a =>
    obtain ⟨t', rfl⟩ := ry
    cases x with
    | non => cases rx; exact SeqAt.EqAt.str_none a t'
    | bl b => cases rx; exact SeqAt.EqAt.str_bool a t' b
    | int b => obtain ⟨t, rfl⟩ := rx; exact SeqAt.EqAt.str_int a t' b t
    | str b => obtain ⟨t, rfl⟩ := rx; exact SeqAt.EqAt.str_str a t' b t
    | _ => exact absurd (show false = true from fx) Bool.false_ne_true
  | _ => exact absurd (show false = true from fy) Bool.false_ne_true
def eqU (x : V) (u : Value) : Bool := match u with
  | .none => eqV .non x
  | .bool b => eqV (.bl b) x
  | .int i _ => eqV (.int i) x
  | .str z _ => eqV (.str z) x
  | _ => false
theorem eqU_of {x y : V} {u : Value} (r : RelV y u) (f : flatV y = true) : eqU x u = eqV y x := by
  cases y with
  | non => cases r; rfl
  | bl b => cases r; rfl
  | int i => obtain ⟨t, rfl⟩ := r; rfl
  | str z => obtain ⟨t, rfl⟩ := r; rfl
  | _ => exact absurd (show false = true from f) Bool.false_ne_true
theorem any_eqU {x : V} : ∀ {xs : List V} {us : List Value}, Vals xs us → xs.all flatV = true → us.any (eqU x) = xs.any fun y => eqV y x
  | _, _, .nil, _ => rfl
  | y :: xs, u :: us, .cons r t, f => by
    rw [List.all_cons, Bool.and_eq_true] at f
    rw [List.any_cons, List.any_cons, eqU_of r f.1, any_eqU t f.2]
theorem mem_eqAt {A : Around} {s : Shared} {x : V} {v : Value} (rx : RelV x v) (fx : flatV x = true) : ∀ {xs : List V} {us : List Value}, Vals xs us → xs.all flatV = true → ∀ u ∈ us, SeqAt.EqAt A s u v (eqU x u)
  | _, _, .nil, _ => fun u hu => by cases hu
  | y :: xs, u :: us, .cons r t, f => fun u' hu => by
    rw [List.all_cons, Bool.and_eq_true] at f
    rcases List.mem_cons.mp hu with rfl | hu
    · rw [eqU_of r f.1]; exact eqAt_V r rx f.1 fx
    · exact mem_eqAt rx fx t f.2 u' hu
def inV (x : V) (xs : List V) : Bool := xs.any fun y => eqV y x
def rIn (K : PySem.W.Frag) (neg : Bool) : R2 := fun x y H Q => ∃ p xs, y = .ref p ∧ (SqL K H p xs ∨ SqT K H p xs) ∧ flatV x = true ∧ xs.all flatV = true ∧ Q (.bl (if neg then !inV x xs else inV x xs)) H
theorem op_in_seq : OpR X (compareOp .In) (rIn X.K false) := by
  intro pins s σ H x y v u Q I rx ry h
  obtain ⟨p, xs, rfl, hq, fx, fs, q⟩ := h
  cases ry
  rcases hq with hq | hq
  · obtain ⟨its, r, pl, hz⟩ := I.list hq
    refine SeqAt.in_listAt (eqU x) pl.isList (fun w hw => mem_eqAt rx fx r fs w (by simpa using hw)) ⟨.bl _, H, I, rfl, ?_⟩
    rw [show its.toArray.any (eqU x) = its.any (eqU x) by simp, any_eqU r fs]
    exact q
  · obtain ⟨its, r, pl, hz⟩ := I.tuple hq
    refine SeqAt.in_tupleAt (eqU x) pl (fun w hw => mem_eqAt rx fx r fs w (by simpa using hw)) ⟨.bl _, H, I, rfl, ?_⟩
    rw [show its.toArray.any (eqU x) = its.any (eqU x) by simp, any_eqU r fs]
    exact q
theorem call_len_seq : CallR X (.builtin "len") (fun xs H Q => ∃ p ys, xs = [.ref p] ∧ (SqL X.K H p ys ∨ SqT X.K H p ys) ∧ Q (.int ys.length) H) := by
  intro pins s σ H xs us Q I r h
  obtain ⟨p, ys, rfl, hq, q⟩ := h
  obtain ⟨u, rfl, rx⟩ := vals1 r
  cases rx
  have hn := line63
  rcases hq with hq | hq
  · obtain ⟨its, r', pl, hz⟩ := I.list hq
    have hlen := r'.length
    exact Calls.call_len_list pl.isList (by simp only [List.size_toArray] <;> omega) ⟨.int ys.length, H, I.tok _, ⟨s.toks + 1, by rw [List.size_toArray, hlen]⟩, q⟩
  · obtain ⟨its, r', pl, hz⟩ := I.tuple hq
    have hlen := r'.length
    exact len_tuple pl (by simp only [List.size_toArray] <;> omega) ⟨.int ys.length, H, I.tok _, ⟨s.toks + 1, by rw [List.size_toArray, hlen]⟩, q⟩
theorem call_len_str : CallR X (.builtin "len") (fun xs H Q => ∃ z, xs = [.str z] ∧ z.length ≤ sizeLine ∧ Q (.int z.length) H) := by
  intro pins s σ H xs us Q I r h
  obtain ⟨z, rfl, hz, q⟩ := h
  obtain ⟨u, rfl, t, rfl⟩ := vals1 r
  have hn := line63
  exact len_str (by omega) ⟨.int z.length, H, I.tok _, ⟨_, rfl⟩, q⟩
theorem CallR.or {f : Value} {r r' : List V → Hp → VK → Prop} (h : CallR X f r) (h' : CallR X f r') : CallR X f (fun xs H Q => r xs H Q ∨ r' xs H Q) := by
  intro pins s σ H xs us Q I rs q
  rcases q with q | q
  · exact h pins s σ H xs us Q I rs q
  · exact h' pins s σ H xs us Q I rs q
theorem call_list_of : CallR X (.type "list") (fun xs H Q => ∃ p ys, xs = [.ref p] ∧ (SqL X.K H p ys ∨ SqT X.K H p ys) ∧ ∀ l, H l = none → Q (.ref l) (upd H l (.lst ys))) := by
  intro pins s σ H xs us Q I r h
  obtain ⟨p, ys, rfl, hq, q⟩ := h
  obtain ⟨u, rfl, rx⟩ := vals1 r
  cases rx
  have fin : ∀ (its : List Value), Vals ys its → ys.length ≤ sizeLine → ∀ (h' : Heap) (c' : Nat), (∀ b o', s.heap.get? b = some o' → h'.get? b = some o') →
      h'.get? s.heap.objs.size = some { cls := .type "list", dict := none, data := .seq its.toArray c', slots := #[] } → EP X pins σ Q (.ref s.heap.objs.size) { s with heap := h' } := fun its r' hz h' c' kp e =>
    ⟨.ref s.heap.objs.size, _, I.laid (t' := s.toks) kp (Nat.le_refl _) (show ObjOk X.prog X.w _ h' _ (.lst ys) from ⟨hz, its, c', r', e⟩), rfl, q _ (I.hok.fresh (Nat.le_refl _))⟩
  rcases hq with hq | hq
  · obtain ⟨its, r', pl, hz⟩ := I.list hq
    have hlen := r'.length
    obtain ⟨o, ho, hc, n, hd⟩ := pl.isList
    exact call_list_seq p (.inl rfl) ho hc hd (fun h' c' kp e => fin its r' hz h' c' kp e) (by simp only [List.size_toArray] <;> omega)
  · obtain ⟨its, r', pl, hz⟩ := I.tuple hq
    have hlen := r'.length
    obtain ⟨o, ho, hc, n, hd⟩ := pl
    exact call_list_seq p (.inr rfl) ho hc hd (fun h' c' kp e => fin its r' hz h' c' kp e) (by simp only [List.size_toArray] <;> omega)
theorem call_tuple_of : CallR X (.type "tuple") (fun xs H Q => ∃ p ys, xs = [.ref p] ∧ ((SqL X.K H p ys ∧ ∀ l, H l = none → Q (.ref l) (upd H l (.tup ys))) ∨ (SqT X.K H p ys ∧ Q (.ref p) H))) := by
  intro pins s σ H xs us Q I r h
  obtain ⟨p, ys, rfl, h⟩ := h
  obtain ⟨u, rfl, rx⟩ := vals1 r
  cases rx
  rcases h with ⟨hq, q⟩ | ⟨hq, q⟩
  · obtain ⟨its, r', pl, hz⟩ := I.list hq
    have hlen := r'.length
    refine call_tuple_list pl.isList (fun h' kp => ?_) (by simp only [List.size_toArray] <;> omega)
    have I1 : Inv X pins σ H { s with heap := h' } := I.kept (t' := s.toks) kp
    have I2 : Inv X pins σ (upd H h'.objs.size (.tup ys)) { s with heap := h'.push { cls := .type "tuple", data := .seq its.toArray } } :=
      I1.laid (t' := s.toks) (fun b o e => Heap.get?_push_of_some _ e) (Nat.le_refl _) (show ObjOk X.prog X.w _ _ _ (.tup ys) from ⟨hz, its, r', IsTup.new _ _⟩)
    exact ⟨.ref h'.objs.size, _, I2, rfl, q _ (I1.hok.fresh (Nat.le_refl _))⟩
  · obtain ⟨its, r', pl, hz⟩ := I.tuple hq
    exact call_tuple_same pl ⟨.ref p, H, I, rfl, q⟩
def tyV (K : PySem.W.Frag) (T : String) (x : V) (H : Hp) : Prop := match x with
  | .str _ => T = "str"
  | .int _ => T = "int"
  | .ref p => (T = "list" ∧ ∃ xs, SqL K H p xs) ∨ (T = "tuple" ∧ ∃ o, K.lookup p = some o ∧ o.cls = .type "tuple" ∧ o.dict = none) ∨
      (T = "dict" ∧ ((∃ kvs, H p = some (.dK kvs)) ∨ ∃ kvs, H p = some (.dT kvs))) ∨ (T = "set" ∧ ∃ S n, H p = some (.set S n))
  | _ => False
theorem tyV_is {pins : List (Addr × Obj)} {σ : St} {H : Hp} {s : Shared} {T : String} {x : V} {v : Value} (I : Inv X pins σ H s) (r : RelV x v) (ty : tyV X.K T x H) :
    s.TypeIs v T ∧ ∀ a, v = .ref a → ∃ ob, s.heap.get? a = some ob ∧ ob.dict = none := by
  cases x with
  | str z =>
    obtain ⟨t, rfl⟩ := r
    cases (show T = "str" from ty)
    exact ⟨typeIs_str s z t, fun _ e => nomatch e⟩
  | int i =>
    obtain ⟨t, rfl⟩ := r
    cases (show T = "int" from ty)
    exact ⟨typeIs_int s i t, fun _ e => nomatch e⟩
  | ref p =>
    cases r
    rcases ty with ⟨rfl, xs, hq⟩ | ⟨rfl, o, hk, hc, hd⟩ | ⟨rfl, hk⟩ | ⟨rfl, S, n, hk⟩
    · obtain ⟨its, _, pl, _⟩ := I.list hq
      refine ⟨pl.isList.typeIs, fun a e => ?_⟩
      cases e
      obtain ⟨o, n, e, c, hd, _⟩ := pl
      exact ⟨o, e, hd⟩
    · refine ⟨⟨o, I.kIn p o hk, hc⟩, fun a e => ?_⟩
      cases e
      exact ⟨o, I.kIn _ o hk, hd⟩
    · have z : ∃ o, s.heap.get? p = some o ∧ o.ExactDict := by
        rcases hk with ⟨kvs, hk⟩ | ⟨kvs, hk⟩
        · obtain ⟨_, _, _, _, o, _, _, e, ex, _⟩ := I.hok p _ hk
          exact ⟨o, e, ex⟩
        · obtain ⟨_, _, _, _, o, _, _, e, ex, _⟩ := I.hok p _ hk
          exact ⟨o, e, ex⟩
      obtain ⟨o, e, ex⟩ := z
      refine ⟨⟨o, e, ex.1⟩, fun a e2 => ?_⟩
      cases e2
      exact ⟨o, e, ex.2.1⟩
    · obtain ⟨o, _, _, _, e, ex, _⟩ := I.hok p _ hk
      refine ⟨⟨o, e, ex.1⟩, fun a e2 => ?_⟩
      cases e2
      exact ⟨o, e, ex.2.1⟩
  | _ => exact False.elim ty
def tBM0 (K : PySem.W.Frag) (T : String) (r : V → List V → Hp → VK → Prop) (to : TE) : TE := fun σ H Q => to σ H fun x H1 => tyV K T x H1 ∧ r x [] H1 Q
def tBM (K : PySem.W.Frag) (T : String) (r : V → List V → Hp → VK → Prop) (to : TE) (t : TA) : TE := fun σ H Q => to σ H fun x H1 => tyV K T x H1 ∧ t σ H1 fun xs H2 => r x xs H2 Q
variable {o e : Expr} {es : List Expr} {to : TE} {t : TA} {name : Str} {apos cpos : Pos} {T id : String} {r : V → List V → Hp → VK → Prop}
theorem pe_bm0 (pa : PlainAttrs T) (slot : Slot T name id) (hty : typeOf (.builtin id) = pure (.type "method_descriptor")) (hm : MtR X id r) (ho : PE X o to)
    (hbase : attributeBase o name X.env (eval o X.env) = eval o X.env := by rfl) (hline : (apos.endLine == cpos.line) = true := by rfl) : PE X (.Call (.Attribute o name apos) [] [] cpos) (tBM0 X.K T r to) := by
  intro pins s σ H Q I h
  refine wpAny_Call_method0_late hbase hline (thn (ho pins s σ H _ I h) fun v s1 ⟨x, H1, I1, r1, ty, q1⟩ => ?_)
  obtain ⟨h1, h2⟩ := tyV_is I1 r1 ty
  exact ⟨T, id, pa, slot, hty, h1, h2, Calls.callWith_builtin rfl (PySem.evalArgs_none (hm pins s1 σ H1 x [] v [] Q I1 r1 .nil q1))⟩
theorem pe_bm (pa : PlainAttrs T) (slot : Slot T name id) (hty : typeOf (.builtin id) = pure (.type "method_descriptor")) (hm : MtR X id r) (ho : PE X o to) (ha : PA X (e :: es) t)
    (hbase : attributeBase o name X.env (eval o X.env) = eval o X.env := by rfl)
    (hfew : ((backTo cpos (starEach (e :: es) X.env)).all (fun x => !x.1) && (backToKw cpos (keywordEach [] X.env)).all (fun x => x.1.isSome)
      && decide ((e :: es).length + ([] : List Keyword).length + (if ([] : List Keyword).isEmpty then 0 else 1) < 30)) = true := by rfl)
    (hline : (apos.endLine == cpos.line) = true := by rfl) (hs : starEach (e :: es) X.env = (false, eval e X.env) :: starEach es X.env := by rfl) (hplain : (backTo cpos (starEach es X.env)).any (·.1) = false := by rfl) :
    PE X (.Call (.Attribute o name apos) (e :: es) [] cpos) (tBM X.K T r to t) := by
  intro pins s σ H Q I h
  refine wpAny_Call_method_late hbase hfew hline rfl (thn (ho pins s σ H _ I h) fun v s1 ⟨x, H1, I1, r1, ty, q1⟩ => ?_)
  obtain ⟨h1, h2⟩ := tyV_is I1 r1 ty
  refine ⟨T, id, pa, slot, hty, h1, h2, ?_⟩
  have hA := ha cpos pins s1 σ H1 _ I1 q1
  rw [hs] at hA ⊢
  refine Calls.callWith_builtin (by show (false || (backTo cpos (starEach es X.env)).any (·.1)) = false; rw [hplain] <;> rfl) (Calls.evalArgs_plain ?_)
  exact thn hA fun us s2 ⟨vs, H2, I2, r2, q2⟩ => hm pins s2 σ H2 x vs v us Q I2 r1 r2 q2
end
end L2
namespace L2
open PySem PySem.Spec PyProof.Rows
def MtM (X : Cx) (id : String) (r : V → List V → Hp → VK → Prop) : Prop :=
  ∀ (pins : List (Addr × Obj)) (s : Shared) (σ : St) (H : Hp) (x : V) (xs : List V) (v : Value) (us : List Value) (Q : VK), Inv X pins σ H s → RelV x v → Vals xs us → r x xs H Q →
    wpAny (model X.prog X.w) X.A (call (.builtin id) (v :: us)) (EP X pins σ Q) X.xe s
theorem Vals.one : ∀ {x : V} {us : List Value}, Vals [x] us → ∃ u, us = [u] ∧ RelV x u
  | _, _, .cons r .nil => ⟨_, rfl, r⟩
theorem Vals.two : ∀ {x y : V} {us : List Value}, Vals [x, y] us → ∃ u v, us = [u, v] ∧ RelV x u ∧ RelV y v
  | _, _, _, .cons r (.cons q .nil) => ⟨_, _, rfl, r, q⟩
theorem Vals.zero : ∀ {us : List Value}, Vals [] us → us = []
  | _, .nil => rfl
theorem Vals.dropLast {xs : List V} {us : List Value} (h : Vals xs us) : Vals xs.dropLast us.dropLast := by
  induction h with
  | nil => exact .nil
  | cons r t ih =>
    cases t with
    | nil => exact .nil
    | cons q t' => exact .cons r ih
theorem Vals.eraseIdx : ∀ {xs : List V} {us : List Value} (i : Nat), Vals xs us → Vals (xs.eraseIdx i) (us.eraseIdx i)
  | _, _, _, .nil => .nil
  | _, _, 0, .cons _ t => t
  | _, _, i + 1, .cons r t => .cons r (Vals.eraseIdx i t)
theorem Vals.reverse {xs : List V} {us : List Value} (h : Vals xs us) : Vals xs.reverse us.reverse := by
  induction h with
  | nil => exact .nil
  | cons r t ih => rw [List.reverse_cons, List.reverse_cons]; exact Vals.append ih (.cons r .nil)
theorem Vals.rep {xs : List V} {us : List Value} (h : Vals xs us) : ∀ k : Nat, Vals (List.replicate k xs).flatten (List.replicate k us).flatten
  | 0 => .nil
  | k + 1 => by
    rw [List.replicate_succ, List.replicate_succ, List.flatten_cons, List.flatten_cons]
    exact Vals.append h (Vals.rep h k)
theorem erase_last {α : Type} (l : List α) : l.eraseIdx (l.length - 1) = l.dropLast := by
  induction l with
  | nil => rfl
  | cons a r ih =>
    cases r with
    | nil => rfl
    | cons b r =>
      have e : (a :: b :: r).length - 1 = ((b :: r).length - 1) + 1 := by
        have h1 : (a :: b :: r).length = r.length + 2 := rfl
        have h2 : (b :: r).length = r.length + 1 := rfl
        omega
      rw [e, List.eraseIdx_cons_succ, ih]
      all_goals rfl
theorem len_erase {α : Type} : ∀ (l : List α) (i : Nat), (l.eraseIdx i).length ≤ l.length
  | [], _ => Nat.le_refl _
  | _ :: _, 0 => Nat.le_succ _
  | _ :: r, i + 1 => Nat.succ_le_succ (len_erase r i)
theorem foldl_rep (its : List Value) : ∀ (k : Nat) (acc : List Value),
    List.foldl (fun x1 x2 => x1 ++ x2) acc.toArray (List.replicate k its.toArray) = (acc ++ (List.replicate k its).flatten).toArray
  | 0, acc => by simp
  | k + 1, acc => by
    have e : acc.toArray ++ its.toArray = (acc ++ its).toArray := by simp
    have e2 : (acc ++ its) ++ (List.replicate k its).flatten = acc ++ (List.replicate (k + 1) its).flatten := by
      rw [List.replicate_succ, List.flatten_cons, List.append_assoc]
    rw [← e2, ← foldl_rep its k (acc ++ its), ← e, List.replicate_succ, List.foldl_cons]
section
variable {X : Cx} {pins : List (Addr × Obj)} {σ : St} {H : Hp} {s : Shared} {l b : Addr} {xs ys zs : List V}
theorem Inv.lset {its its' : List Value} {n : Nat} {f : Array Value → Array Value} {t' : Nat} (I : Inv X pins σ H s) (hH : H l = some (.lst xs))
    (e : s.heap.get? l = some { cls := .type "list", data := .seq its.toArray n }) (hf : f its.toArray = its'.toArray) (hv : Vals ys its') (hz : ys.length ≤ sizeLine) (ht : 0 < t' := by first | exact Nat.succ_pos _ | assumption | exact Inv.tk ‹_› | omega) :
    Inv X pins σ (upd H l (.lst ys)) { s with heap := s.heap.update l (Obj.mapSeq f), toks := t' } := by
  have q := PySem.IsL.update e f
  rw [hf] at q
  refine I.write (x := l) (e := l) (by rw [hH]; exact trivial) (.inl rfl) (fun b' u hb hu => (Heap.get?_update_other s.heap (Obj.mapSeq f) (Ne.symm hb)).trans hu) ⟨_, q⟩ ?_
  exact ⟨hz, its', _, hv, q⟩
theorem Inv.lnew {its : List Value} {t' : Nat} (I : Inv X pins σ H s) (hv : Vals ys its) (hz : ys.length ≤ sizeLine) (ht : 0 < t' := by first | exact Nat.succ_pos _ | assumption | exact Inv.tk ‹_› | omega) :
    Inv X pins σ (upd H s.heap.objs.size (.lst ys)) { s with heap := s.heap.push { cls := .type "list", data := .seq its.toArray }, toks := t' } :=
  I.laid (fun _ _ q => Heap.get?_push_of_some _ q) (Nat.le_refl _) ⟨hz, its, 0, hv, Heap.get?_push_size _ rfl⟩
theorem Inv.fresh (I : Inv X pins σ H s) : H s.heap.objs.size = none := I.hok.fresh (Nat.le_refl _)
theorem Inv.lstM (I : Inv X pins σ H s) (hH : H l = some (.lst xs)) : xs.length ≤ sizeLine ∧ ∃ (its : List Value) (n : Nat), Vals xs its ∧ xs.length = its.length ∧ s.heap.get? l = some { cls := .type "list", data := .seq its.toArray n } := by
  obtain ⟨z, its, n, r, e⟩ := I.hok l _ hH
  exact ⟨z, its, n, r, r.length, e⟩
theorem notLongL {n : Nat} (h : n ≤ sizeLine) : Builtin.List.listTooLong n = false := by
  unfold Builtin.List.listTooLong
  exact decide_eq_false (by omega)
end
section
variable {X : Cx}
def rAppend : V → List V → Hp → VK → Prop := fun x vs H Q => ∃ l xs y, x = .ref l ∧ vs = [y] ∧ H l = some (.lst xs) ∧ xs.length < sizeLine ∧ Q .non (upd H l (.lst (xs ++ [y])))
theorem mt_append : MtM X "list.append" rAppend := by
  intro pins s σ H x vs v us Q I rx rv h
  obtain ⟨l, xs, y, rfl, rfl, hH, hz, q⟩ := h
  cases rx
  obtain ⟨u, rfl, ru⟩ := rv.one
  obtain ⟨z, its, n, r, hl, e⟩ := I.lstM hH
  refine call_meets F.slot_list_append ⟨_, e, rfl⟩ F.entry_list_append (F.args_list_append_2 _ _) (PySem.list_append l its.toArray n u (by rw [List.size_toArray]; omega)) ⟨e, ?_⟩
  refine ⟨.non, _, I.lset (its' := its ++ [u]) hH e (by simp) (r.append (.cons ru .nil)) ?_, rfl, q⟩
  rw [List.length_append, List.length_singleton]
  omega
def rPop : V → List V → Hp → VK → Prop := fun x vs H Q => ∃ l xs y, x = .ref l ∧ vs = [] ∧ H l = some (.lst xs) ∧ xs[xs.length - 1]? = some y ∧ Q y (upd H l (.lst xs.dropLast))
theorem mt_pop : MtM X "list.pop" rPop := by
  intro pins s σ H x vs v us Q I rx rv h
  obtain ⟨l, xs, y, rfl, rfl, hH, hy, q⟩ := h
  cases rx
  have hus := rv.zero
  subst hus
  obtain ⟨z, its, n, r, hl, e⟩ := I.lstM hH
  obtain ⟨u, hu, ru⟩ := r.get hy
  have hy' : its.toArray[its.toArray.size - 1]? = some u := by
    show its.toArray[its.length - 1]? = some u
    rw [← Array.getElem?_toList, ← hl]
    exact hu
  refine call_meets F.slot_list_pop ⟨_, e, rfl⟩ F.entry_list_pop (F.args_list_pop_1 _) (MeetsSeq.list_pop_last l its.toArray n u hy' (by rw [List.size_toArray]; omega)) ⟨e, ?_⟩
  refine ⟨y, _, I.lset (its' := its.dropLast) hH e ?_ r.dropLast ?_, ru, q⟩
  · show its.toArray.eraseIdxIfInBounds (its.toArray.size - 1) = its.dropLast.toArray
    rw [List.size_toArray, List.eraseIdxIfInBounds_toArray, erase_last]
  · rw [List.length_dropLast]
    omega
def rPopAt : V → List V → Hp → VK → Prop := fun x vs H Q => ∃ l xs i k y, x = .ref l ∧ vs = [.int i] ∧ H l = some (.lst xs) ∧ -(2 ^ 63) ≤ i ∧ i < 2 ^ 63 ∧ seqIndex? i xs.length = some k ∧ xs[k]? = some y ∧ Q y (upd H l (.lst (xs.eraseIdx k)))
theorem mt_popAt : MtM X "list.pop" rPopAt := by
  intro pins s σ H x vs v us Q I rx rv h
  obtain ⟨l, xs, i, k, y, rfl, rfl, hH, h1, h2, hk, hy, q⟩ := h
  cases rx
  obtain ⟨u, rfl, ru⟩ := rv.one
  obtain ⟨t, rfl⟩ := ru
  obtain ⟨z, its, n, r, hl, e⟩ := I.lstM hH
  obtain ⟨w, hw, rw'⟩ := r.get hy
  refine call_meets F.slot_list_pop ⟨_, e, rfl⟩ F.entry_list_pop (F.args_list_pop_2 _ _)
    (MeetsSeq.list_pop_at l its.toArray n i t k w (fitsIndex_both h1 h2) (by rw [List.size_toArray, ← hl]; exact hk) (by rw [← Array.getElem?_toList]; exact hw) (by rw [List.size_toArray]; omega)) ⟨e, ?_⟩
  refine ⟨y, _, I.lset (its' := its.eraseIdx k) hH e ?_ (r.eraseIdx k) ?_, rw', q⟩
  · show its.toArray.eraseIdxIfInBounds k = (its.eraseIdx k).toArray
    rw [List.eraseIdxIfInBounds_toArray]
  · have := len_erase xs k
    omega
def rCat : R2 := fun x y H Q => ∃ l b xs zs, x = .ref l ∧ y = .ref b ∧ H l = some (.lst xs) ∧ H b = some (.lst zs) ∧ xs.length + zs.length ≤ sizeLine ∧ ∀ p, H p = none → Q (.ref p) (upd H p (.lst (xs ++ zs)))
theorem op_cat : OpR X (binaryOp .Add) rCat := by
  intro pins s σ H x y v u Q I rx ry h
  obtain ⟨l, b, xs, zs, rfl, rfl, hH, hB, hz, q⟩ := h
  cases rx
  cases ry
  obtain ⟨z, its, n, r, hl, e⟩ := I.lstM hH
  obtain ⟨z2, its2, n2, r2, hl2, e2⟩ := I.lstM hB
  refine PySem.P.add_list e e2 ?_ (by rw [List.size_toArray, List.size_toArray]; omega)
  have ea : its.toArray ++ its2.toArray = (its ++ its2).toArray := by simp
  rw [ea]
  exact ⟨.ref _, _, I.lnew (t' := s.toks) (r.append r2) (by rw [List.length_append]; omega), rfl, q _ I.fresh⟩
def rRep : R2 := fun x y H Q => ∃ l k xs, x = .ref l ∧ y = .int k ∧ H l = some (.lst xs) ∧ -(2 ^ 63) ≤ k ∧ k < 2 ^ 63 ∧ xs.length * k.toNat ≤ sizeLine ∧
  ∀ p, H p = none → Q (.ref p) (upd H p (.lst (List.replicate k.toNat xs).flatten))
theorem len_rep {α : Type} (xs : List α) (k : Nat) : (List.replicate k xs).flatten.length = k * xs.length := by
  induction k with
  | zero => simp
  | succ k ih => rw [List.replicate_succ, List.flatten_cons, List.length_append, ih, Nat.succ_mul, Nat.add_comm]
theorem op_rep : OpR X (binaryOp .Mult) rRep := by
  intro pins s σ H x y v u Q I rx ry h
  obtain ⟨l, k, xs, rfl, rfl, hH, h1, h2, hz, q⟩ := h
  cases rx
  obtain ⟨t, rfl⟩ := ry
  obtain ⟨z, its, n, r, hl, e⟩ := I.lstM hH
  have hlen : its.toArray.size * k.toNat ≤ sizeLine := by rw [List.size_toArray, ← hl]; exact hz
  have hcap : ¬ its.toArray.size * k.toNat > (2 ^ 63 - 1) / 8 := by
    have : (sizeLine : Nat) ≤ (2 ^ 63 - 1) / 8 := by decide
    omega
  have hfit : ¬ (!Builtin.List.listFitsIndex k) = true := by
    rw [fitsIndex_both h1 h2]
    exact Bool.false_ne_true
  have hlong : ¬ Builtin.List.listTooLong (its.toArray.size * k.toNat) = true := by
    rw [notLongL hlen]
    exact Bool.false_ne_true
  have hnew : List.foldl (fun x1 x2 => x1 ++ x2) #[] (List.replicate (if its.toArray.isEmpty = true then 0 else k.toNat) its.toArray) = (List.replicate k.toNat its).flatten.toArray := by
    have f0 : ∀ m : Nat, List.foldl (fun x1 x2 => x1 ++ x2) #[] (List.replicate m its.toArray) = (List.replicate m its).flatten.toArray := fun m => by
      have := foldl_rep its m []
      rw [List.nil_append] at this
      exact this
    rw [f0]
    cases its with
    | nil => simp
    | cons a r' => rw [if_neg (by simp)]
  refine wpAny_binaryOp_repeat_ref (T := "list") (U := "int") (by decide) ⟨_, e, rfl⟩ (fun s' => typeIs_int s' k t) noFill_list_mul F.fills_int_mul F.slot_int_rmul repeat_list F.slot_int_index.lookup
    (call_meets F.slot_int_rmul (typeIs_int s k t) F.entry_int_rmul (F.args_int_rmul_2 _ _) (int___rmul___int_list k t l its.toArray n)
      ⟨e, rfl, ⟨_, e, rfl⟩, call_meets F.slot_list_mul ⟨_, e, rfl⟩ F.entry_list_mul (F.args_list_mul_2 _ _) (AutoListH.list___mul___list_int_3 l its.toArray n k t hfit hcap hlong) ⟨e, ?_⟩⟩)
  rw [hnew]
  exact ⟨.ref _, _, I.lnew (t' := s.toks) (r.rep k.toNat) (by rw [len_rep, Nat.mul_comm]; exact hz), rfl, q _ I.fresh⟩
end
section
variable {prog : Program} {w : World} {A : Around} {E : Value → Shared → Prop} {s : Shared}
end
section
variable {X : Cx}
end
end L2
namespace L2
open PySem PySem.Spec PyProof.Rows
section
variable {κ : Type} [DecidableEq κ]
def valV (kvs : List (κ × V)) (k : κ) : Option V := (kvs.find? fun kv => decide (kv.1 = k)).map (·.2)
def putK (kvs : List (κ × V)) (k : κ) (v : V) : List (κ × V) :=
  if (kvs.any fun kv => decide (kv.1 = k)) = true then kvs.map (fun kv => if kv.1 = k then (kv.1, v) else kv) else kvs ++ [(k, v)]
theorem valV_nil {k : κ} : valV ([] : List (κ × V)) k = none := rfl
theorem valV_pos {p : κ × V} {r : List (κ × V)} {k : κ} (e : p.1 = k) : valV (p :: r) k = some p.2 := by simp [valV, List.find?_cons, e]
theorem valV_neg {p : κ × V} {r : List (κ × V)} {k : κ} (e : ¬ p.1 = k) : valV (p :: r) k = valV r k := by simp [valV, List.find?_cons, e]
theorem valV_any (k : κ) : ∀ kvs : List (κ × V), (kvs.any fun kv => decide (kv.1 = k)) = (valV kvs k).isSome
  | [] => rfl
  | p :: r => by
    rw [List.any_cons]
    by_cases e : p.1 = k
    · simp only [valV_pos e, decide_eq_true e, Bool.true_or, Option.isSome_some]
    · rw [valV_neg e, decide_eq_false e, Bool.false_or]; exact valV_any k r
theorem valV_map (k j : κ) (y : V) : ∀ kvs : List (κ × V), valV (kvs.map fun kv => if kv.1 = k then (kv.1, y) else kv) j = (valV kvs j).map fun x => if j = k then y else x
  | [] => rfl
  | p :: r => by
    have ih := valV_map k j y r
    rw [List.map_cons]
    by_cases h : p.1 = k
    · rw [if_pos h]
      by_cases e : p.1 = j
      · rw [valV_pos (p := (p.1, y)) e, valV_pos e, Option.map_some, if_pos (e.symm.trans h)]
      · rw [valV_neg (p := (p.1, y)) e, valV_neg e, ih]
    · rw [if_neg h]
      by_cases e : p.1 = j
      · rw [valV_pos (p := p) e, valV_pos e, Option.map_some, if_neg (fun z => h (e.trans z))]
      · rw [valV_neg (p := p) e, valV_neg e, ih]
theorem valV_snoc (k j : κ) (y : V) : ∀ kvs : List (κ × V), valV kvs k = none → valV (kvs ++ [(k, y)]) j = if j = k then some y else valV kvs j
  | [], _ => by
    by_cases e : k = j
    · rw [if_pos e.symm]; exact valV_pos (p := (k, y)) e
    · rw [if_neg (fun z => e z.symm)]; exact valV_neg (p := (k, y)) e
  | p :: r, hn => by
    rw [List.cons_append]
    have hk : ¬ p.1 = k := fun z => by rw [valV_pos z] at hn; cases hn
    rw [valV_neg hk] at hn
    have ih := valV_snoc k j y r hn
    by_cases e : p.1 = j
    · rw [valV_pos e, valV_pos e, if_neg (fun z => hk (e.trans z))]
    · rw [valV_neg e, valV_neg e, ih]
theorem valV_put (kvs : List (κ × V)) (k j : κ) (y : V) : valV (putK kvs k y) j = if j = k then some y else valV kvs j := by
  unfold putK
  by_cases a : (kvs.any fun kv => decide (kv.1 = k)) = true
  · rw [if_pos a, valV_map]
    rw [valV_any] at a
    by_cases e : j = k
    · obtain ⟨x, hx⟩ := Option.isSome_iff_exists.mp a
      rw [if_pos e, e, hx, Option.map_some, if_pos rfl]
    · rw [if_neg e]
      cases valV kvs j with
      | none => rfl
      | some x => rw [Option.map_some, if_neg e]
  · rw [if_neg a]
    refine valV_snoc k j y kvs ?_
    rw [valV_any] at a
    cases q : valV kvs k with
    | none => rfl
    | some x => rw [q] at a; exact (a rfl).elim
theorem length_putK (kvs : List (κ × V)) (k : κ) (v : V) : (putK kvs k v).length ≤ kvs.length + 1 := by
  unfold putK
  split
  · rw [List.length_map]; omega
  · rw [List.length_append, List.length_cons, List.length_nil]; omega
theorem putK_new {kvs : List (κ × V)} {k : κ} (v : V) (h : valV kvs k = none) : putK kvs k v = kvs ++ [(k, v)] := by
  unfold putK
  rw [valV_any, h]
  exact if_neg (by decide)
theorem RelO.isSome_eq {o : Option V} {u : Option Value} (r : RelO o u) : o.isSome = u.isSome := by
  cases o with
  | none => cases u with
    | none => rfl
    | some _ => exact (show False from r).elim
  | some _ => cases u with
    | none => exact (show False from r).elim
    | some _ => rfl
theorem RelO.getD {o : Option V} {u : Option Value} {d : V} {d' : Value} (r : RelO o u) (rd : RelV d d') : RelV (o.getD d) (u.getD d') := by
  cases o with
  | none => cases u with
    | none => exact rd
    | some _ => exact (show False from r).elim
  | some _ => cases u with
    | none => exact (show False from r).elim
    | some _ => exact r
theorem KV.val {kvs : List (κ × V)} {vs : List (κ × Value)} (r : KV kvs vs) (k : κ) : RelO (valV kvs k) (valueAt vs k) := by
  unfold KV at r
  induction r with
  | nil => exact True.intro
  | @cons p q ps qs h t ih =>
    obtain ⟨h1, h2⟩ := h
    by_cases e : p.1 = k
    · have e' : q.1 = k := h1.symm.trans e
      have b : valueAt (q :: qs) k = some q.2 := by simp [valueAt, List.find?_cons, e']
      rw [valV_pos e, b]; exact h2
    · have e' : ¬ q.1 = k := fun z => e (h1.trans z)
      have b : valueAt (q :: qs) k = valueAt qs k := by simp [valueAt, List.find?_cons, e']
      rw [valV_neg e, b]; exact ih
theorem KV.any {kvs : List (κ × V)} {vs : List (κ × Value)} (r : KV kvs vs) (k : κ) : (kvs.any fun kv => decide (kv.1 = k)) = vs.any fun kv => decide (kv.1 = k) := by
  unfold KV at r
  induction r with
  | nil => rfl
  | cons h t ih => rw [List.any_cons, List.any_cons, ih, h.1]
theorem KV.repl {kvs : List (κ × V)} {vs : List (κ × Value)} (r : KV kvs vs) (k : κ) {y : V} {u : Value} (ry : RelV y u) :
    KV (kvs.map fun kv => if kv.1 = k then (kv.1, y) else kv) (vs.map fun kv => if kv.1 = k then (kv.1, u) else kv) := by
  unfold KV at r ⊢
  induction r with
  | nil => exact .nil
  | @cons p q ps qs h t ih =>
    rw [List.map_cons, List.map_cons]
    refine .cons ?_ ih
    obtain ⟨h1, h2⟩ := h
    by_cases e : p.1 = k
    · rw [if_pos e, if_pos (h1.symm.trans e)]; exact ⟨h1, ry⟩
    · rw [if_neg e, if_neg (fun z => e (h1.trans z))]; exact ⟨h1, h2⟩
theorem KV.put {kvs : List (κ × V)} {vs : List (κ × Value)} (r : KV kvs vs) (k : κ) {y : V} {u : Value} (ry : RelV y u) : KV (putK kvs k y) (stored vs k u) := by
  unfold putK stored
  rw [r.any k]
  by_cases e : (vs.any fun kv => decide (kv.1 = k)) = true
  · rw [if_pos e, if_pos e]; exact r.repl k ry
  · rw [if_neg e, if_neg e]; exact Paired.snoc r ⟨rfl, ry⟩
theorem KV.length {kvs : List (κ × V)} {vs : List (κ × Value)} (r : KV kvs vs) : kvs.length = vs.length := Paired.length r
end
theorem kV_is {P : Program} {w : World} {k : Key} {u : Value} (r : RelV (kV k) u) : (mixKind P w).is k u = true := by
  cases k with
  | inl i => obtain ⟨t, e⟩ := (show ∃ t, u = Value.int i t from r); subst e; exact mixKind_int P w i t
  | inr x => obtain ⟨t, e⟩ := (show ∃ t, u = Value.str x t from r); subst e; exact mixKind_str P w x t
theorem items_are {P : Program} {w : World} : ∀ {ks : List Key} {us : List Value}, Vals (ks.map kV) us → ItemsAre (mixKind P w) ks us
  | [], _, r => by rw [List.map_nil] at r; cases r; exact .nil
  | k :: ks, _, r => by
    rw [List.map_cons] at r
    cases r with
    | cons h t => exact .cons (kV_is h) (items_are t)
abbrev KT (H : Hp) : List (List Key × V) → List (List Key × Addr × Value) → Prop := Paired fun p q => p.1 = q.1 ∧ H q.2.1 = some (.tup (p.1.map kV)) ∧ RelV p.2 q.2.2
theorem KT.val {H : Hp} {kvs : List (List Key × V)} {xs : List (List Key × Addr × Value)} (r : KT H kvs xs) (k : List Key) : RelO (valV kvs k) ((atKey xs k).map (·.2)) := by
  induction r with
  | nil => exact True.intro
  | @cons p q ps qs h t ih =>
    obtain ⟨h1, _, h2⟩ := h
    by_cases e : p.1 = k
    · have e' : q.1 = k := h1.symm.trans e
      have b : atKey (q :: qs) k = some q.2 := by simp [atKey, List.find?_cons, e']
      rw [valV_pos e, b]; exact h2
    · have e' : ¬ q.1 = k := fun z => e (h1.trans z)
      have b : atKey (q :: qs) k = atKey qs k := by simp [atKey, List.find?_cons, e']
      rw [valV_neg e, b]; exact ih
theorem KT.repl {H : Hp} {kvs : List (List Key × V)} {xs : List (List Key × Addr × Value)} (r : KT H kvs xs) (k : List Key) {y : V} {u : Value} (ry : RelV y u) :
    KT H (kvs.map fun kv => if kv.1 = k then (kv.1, y) else kv) (xs.map (putAt k u)) := by
  induction r with
  | nil => exact .nil
  | @cons p q ps qs h t ih =>
    rw [List.map_cons, List.map_cons]
    refine .cons ?_ ih
    obtain ⟨h1, h2, h3⟩ := h
    unfold putAt
    by_cases e : p.1 = k
    · rw [if_pos e, if_pos (h1.symm.trans e)]; exact ⟨h1, h2, ry⟩
    · rw [if_neg e, if_neg (fun z => e (h1.trans z))]; exact ⟨h1, h2, h3⟩
theorem KT.put {H : Hp} {kvs : List (List Key × V)} {xs : List (List Key × Addr × Value)} (r : KT H kvs xs) (k : List Key) {b : Addr} {y : V} {u : Value} (hb : H b = some (.tup (k.map kV))) (ry : RelV y u) :
    KT H (putK kvs k y) (storedH xs k b u) := by
  have e : (kvs.any fun kv => decide (kv.1 = k)) = (atKey xs k).isSome := by
    rw [valV_any, (r.val k).isSome_eq, Option.isSome_map]
  unfold putK storedH
  rw [e]
  by_cases q : (atKey xs k).isSome = true
  · rw [if_pos q, if_pos q]; exact r.repl k ry
  · rw [if_neg q, if_neg q]; exact Paired.snoc r ⟨rfl, hb, ry⟩
theorem KT.keeps {H H' : Hp} {kvs : List (List Key × V)} {xs : List (List Key × Addr × Value)} (r : KT H kvs xs) (ht : ∀ b ys, H b = some (.tup ys) → H' b = some (.tup ys)) : KT H' kvs xs :=
  Paired.mapP r fun _ _ z => ⟨z.1, ht _ _ z.2.1, z.2.2⟩
section
variable {P : Program} {w : World} {H : Hp} {h : Heap} {a : Addr}
theorem rd_of {u : HO} (ok : HOk P w H h) (e : Rd H a u) : ObjOk P w H h a u := e.ok ok
theorem dk_rd {kvs : List (Key × V)} (ok : HOk P w H h) (e : Rd H a (.dK kvs)) : kvs.length ≤ sizeLine ∧ (a == sysModules) = false ∧ ∃ vs, KV kvs vs ∧ h.DictOf (mixKind P w) a vs :=
  show ObjOk P w H h a (.dK kvs) from rd_of ok e
theorem dk_of {kvs : List (Key × V)} (ok : HOk P w H h) (e : H a = some (.dK kvs)) : kvs.length ≤ sizeLine ∧ (a == sysModules) = false ∧ ∃ vs, KV kvs vs ∧ h.DictOf (mixKind P w) a vs := dk_rd ok (.inl e)
theorem key_of {ks : List Key} (ok : HOk P w H h) (e : H a = some (.tup (ks.map kV))) : (tupleKind (mixKind P w)).is h ks a := by
  obtain ⟨_, its, r, o, h1, h2, n, h3⟩ := (show ObjOk P w H h a (.tup (ks.map kV)) from ok a _ e)
  exact ⟨o, its.toArray, n, h1, h2, h3, by simpa using items_are r⟩
theorem dt_rd {kvs : List (List Key × V)} (ok : HOk P w H h) (e : Rd H a (.dT kvs)) : kvs.length ≤ sizeLine ∧ (a == sysModules) = false ∧
    ∃ xs, KT H kvs xs ∧ h.DictOfH (tupleKind (mixKind P w)) a xs := by
  obtain ⟨z, y, xs, r, o, es, ep, h1, h2, h3, h4, h5⟩ := (show ObjOk P w H h a (.dT kvs) from rd_of ok e)
  refine ⟨z, y, xs, r, o, es, ep, h1, h2, h3, h4, fun x hx => ?_, h5⟩
  have all : ∀ {l : List (List Key × V)} {m : List (List Key × Addr × Value)}, KT H l m → ∀ x ∈ m, (tupleKind (mixKind P w)).is h x.1 x.2.1 := by
    intro l m q
    induction q with
    | nil => intro x hx; exact nomatch hx
    | @cons p q ps qs hq t ih =>
      intro x hx
      rcases List.mem_cons.mp hx with e | hx
      · subst e
        exact key_of ok (by rw [← hq.1]; exact hq.2.1)
      · exact ih x hx
  exact all r x hx
theorem dt_of {kvs : List (List Key × V)} (ok : HOk P w H h) (e : H a = some (.dT kvs)) : kvs.length ≤ sizeLine ∧ (a == sysModules) = false ∧
    ∃ xs, KT H kvs xs ∧ h.DictOfH (tupleKind (mixKind P w)) a xs := dt_rd ok (.inl e)
end
def DGet (H : Hp) (a : Addr) (y : V) (r : Option V) : Prop :=
  (∃ kvs k, Rd H a (.dK kvs) ∧ y = kV k ∧ r = valV kvs k) ∨ ∃ kvs k b, Rd H a (.dT kvs) ∧ y = .ref b ∧ H b = some (.tup (k.map kV)) ∧ r = valV kvs k
def DPut (H : Hp) (a : Addr) (y v : V) (H' : Hp) : Prop :=
  (∃ kvs k, H a = some (.dK kvs) ∧ y = kV k ∧ kvs.length < sizeLine ∧ H' = upd H a (.dK (putK kvs k v))) ∨
  ∃ kvs k b, H a = some (.dT kvs) ∧ y = .ref b ∧ H b = some (.tup (k.map kV)) ∧ kvs.length < sizeLine ∧ H' = upd H a (.dT (putK kvs k v))
theorem DGet.k {H : Hp} {a : Addr} {kvs : List (Key × V)} {k : Key} (e : H a = some (.dK kvs)) : DGet H a (kV k) (valV kvs k) := .inl ⟨kvs, k, .inl e, rfl, rfl⟩
theorem DGet.t {H : Hp} {a b : Addr} {kvs : List (List Key × V)} {k : List Key} (e : H a = some (.dT kvs)) (eb : H b = some (.tup (k.map kV))) : DGet H a (.ref b) (valV kvs k) := .inr ⟨kvs, k, b, .inl e, rfl, eb, rfl⟩
theorem DPut.k {H : Hp} {a : Addr} {kvs : List (Key × V)} {k : Key} {v : V} (e : H a = some (.dK kvs)) (hl : kvs.length < sizeLine) : DPut H a (kV k) v (upd H a (.dK (putK kvs k v))) := .inl ⟨kvs, k, e, rfl, hl, rfl⟩
theorem DPut.t {H : Hp} {a b : Addr} {kvs : List (List Key × V)} {k : List Key} {v : V} (e : H a = some (.dT kvs)) (eb : H b = some (.tup (k.map kV))) (hl : kvs.length < sizeLine) :
    DPut H a (.ref b) v (upd H a (.dT (putK kvs k v))) := .inr ⟨kvs, k, b, e, rfl, eb, hl, rfl⟩
section
variable {X : Cx} {pins : List (Addr × Obj)} {σ : St} {H : Hp} {s : Shared} {a : Addr} {y v : V} {u r : Value} {o : Option V} {A : Around} {E : Value → Shared → Prop}
theorem Inv.big (I : Inv X pins σ H s) : sysModules < s.heap.objs.size := by
  have h : mainGlobals < s.heap.objs.size := (I.mod.glob.keeps I.bk).lt
  exact Nat.lt_trans (by decide) h
theorem d_getItem {Q : Value → Shared → Prop} (hu : A.units + 1 < cLine) (I : Inv X pins σ H s) (g : DGet H a y (some v)) (ry : RelV y u) (h : ∀ w' s', Inv X pins σ H s' → RelV v w' → Q w' s') :
    wpAny (model X.prog X.w) A (getItem (.ref a) u) Q E s := by
  rcases g with ⟨kvs, k, e, ey, l⟩ | ⟨kvs, k, b, e, ey, eb, l⟩
  · subst ey
    obtain ⟨z, hd, vs, rel, dd⟩ := dk_rd I.hok e
    obtain ⟨w', hw, rw'⟩ := RelO.some_of (v := v) (o := valueAt vs k) (by rw [l]; exact rel.val k)
    exact wpAny_getItem_of (kV_is ry) dd.mapOf hw (h w' _ (I.tok _) rw')
  · subst ey
    cases (show u = Value.ref b from ry)
    obtain ⟨z, hd, xs, rel, dd⟩ := dt_rd I.hok e
    obtain ⟨w', hw, rw'⟩ := RelO.some_of (v := v) (o := (atKey xs k).map (·.2)) (by rw [l]; exact rel.val k)
    obtain ⟨p, hp, hp2⟩ := Option.map_eq_some_iff.mp hw
    refine wpAny_getItem_heap (tupleKind_room_in1 hu) (key_of I.hok eb) dd hp ?_
    rw [hp2]
    exact h w' _ (I.tok _) rw'
theorem d_in {Q : Value → Shared → Prop} (hu : A.units + 1 < cLine) (I : Inv X pins σ H s) (g : DGet H a y o) (ry : RelV y u) (h : ∀ s', Inv X pins σ H s' → Q (.bool o.isSome) s') :
    wpAny (model X.prog X.w) A (compareOp .In u (.ref a)) Q E s := by
  rcases g with ⟨kvs, k, e, ey, l⟩ | ⟨kvs, k, b, e, ey, eb, l⟩
  · subst ey
    obtain ⟨z, hd, vs, rel, dd⟩ := dk_rd I.hok e
    refine wpAny_in_of (kV_is ry) hd dd.mapOf ?_
    rw [← (rel.val k).isSome_eq, ← l]
    exact h _ (I.tok _)
  · subst ey
    cases (show u = Value.ref b from ry)
    obtain ⟨z, hd, xs, rel, dd⟩ := dt_rd I.hok e
    refine wpAny_in_heap (tupleKind_room_in1 hu) (key_of I.hok eb) hd dd ?_
    have q := (rel.val k).isSome_eq
    rw [Option.isSome_map] at q
    rw [← q, ← l]
    exact h _ (I.tok _)
theorem d_write {h' : Heap} {t' : Nat} {ob : HO} (I : Inv X pins σ H s) (mu : Mut (H a)) (hs : Heap.SameBut a s.heap h') (he : ∃ q, h'.get? a = some q) (new : ObjOk X.prog X.w (upd H a ob) h' a ob) (ht : 0 < t' := by first | exact Nat.succ_pos _ | assumption | exact Inv.tk ‹_› | omega) :
    Inv X pins σ (upd H a ob) { s with heap := h', toks := t' } :=
  I.write (x := a) (e := a) mu (.inl rfl) (fun b q hb z => (hs.2 b hb).trans z) he new
theorem dk_new {P : Program} {w : World} {H' : Hp} {h' : Heap} {kvs : List (Key × V)} {vs : List (Key × Value)} (z : kvs.length ≤ sizeLine) (hd : (a == sysModules) = false) (rel : KV kvs vs) (dd : h'.DictOf (mixKind P w) a vs) :
    ObjOk P w H' h' a (.dK kvs) := ⟨z, hd, vs, rel, dd⟩
theorem d_setItem {H' : Hp} {Q : Unit → Shared → Prop} (hu : A.units + 1 < cLine) (I : Inv X pins σ H s) (g : DPut H a y v H') (ry : RelV y u) (rv : RelV v r) (h : ∀ s', Inv X pins σ H' s' → Q () s') :
    wpAny (model X.prog X.w) A (setItem (.ref a) u r) Q E s := by
  rcases g with ⟨kvs, k, e, ey, l, eH⟩ | ⟨kvs, k, b, e, ey, eb, l, eH⟩
  · subst ey eH
    obtain ⟨z, hd, vs, rel, dd⟩ := dk_of I.hok e
    have hz : vs.length ≤ sizeLine := by rw [← rel.length]; exact z
    have hl : (putK kvs k v).length ≤ sizeLine := by have := length_putK kvs k v; omega
    refine wpAny_setItem_pairs (hsz := hz) (kV_is ry) dd fun h' dd' hs => h _ ?_
    have he : ∃ q, h'.get? a = some q := let ⟨q, _, _, hq, _⟩ := dd'; ⟨q, hq⟩
    exact d_write I (by rw [e]; exact True.intro) hs he (dk_new hl hd (rel.put k rv) dd')
  · subst ey eH
    cases (show u = Value.ref b from ry)
    obtain ⟨z, hd, xs, rel, dd⟩ := dt_of I.hok e
    have hz : xs.length ≤ sizeLine := by rw [← Paired.length rel]; exact z
    have hl : (putK kvs k v).length ≤ sizeLine := by have := length_putK kvs k v; omega
    refine wpAny_setItem_heap (hsz := hz) (tupleKind_room_in1 hu) (key_of I.hok eb) dd fun h' dd' hs => h _ ?_
    obtain ⟨q, es, ep, hq, h2, h3, h4, _, h5⟩ := dd'
    refine d_write I (by rw [e]; exact True.intro) hs ⟨q, hq⟩ ⟨hl, hd, _, (rel.put k eb rv).keeps fun c ys ec => ?_, q, es, ep, hq, h2, h3, h4, h5⟩
    rw [upd_ne (ne_of ec e (fun z => nomatch z))]
    exact ec
end
section
variable {X : Cx} {pins : List (Addr × Obj)} {σ : St} {H : Hp} {s : Shared} {a : Addr} {kvs : List (Key × V)} {k : Key} {u : Value} {A : Around} {E : Value → Shared → Prop}
theorem d_len {Q : Value → Shared → Prop} (I : Inv X pins σ H s) (e : Rd H a (.dK kvs)) (h : ∀ t s', Inv X pins σ H s' → Q (.int kvs.length t) s') : wpAny (model X.prog X.w) A (call (.builtin "len") [.ref a]) Q E s := by
  obtain ⟨z, hd, vs, rel, dd⟩ := dk_rd I.hok e
  refine call_len_dict hd dd (by rw [← rel.length]; rw [sizeLine_eq] at z; omega) ?_
  rw [← rel.length]
  exact h _ _ (I.tok _)
end
def NoSl (i : Expr) : Prop := ∀ ov iv, subscripted i false ov iv = operate [ov, iv] (getItem ov iv)
theorem subD_of {prog : Program} {w : World} {A : Around} {E : Value → Shared → Prop} {s : Shared} {env : Env} {value slice : Expr} {pos : Pos} {T id : String} {Q : Value → Shared → Prop}
    (hl : typeLookup (.type T) "__getitem__" = pure (some (.builtin id))) (hs : NoSl slice)
    (h : wpAny (model prog w) A (eval value env) (fun o s₁ => wpAny (model prog w) A (eval slice env) (fun i s₂ => s₂.TypeIs o T ∧ wpAny (model prog w) A (getItem o i) Q E s₂) E s₁) E s) :
    wpAny (model prog w) A (eval (.Subscript value slice pos) env) Q E s := by
  refine Subscript_ (wpAny_mono h (fun o s₁ h₁ => wpAny_mono h₁ (fun i s₂ h₂ => ?_) fun _ _ x => x) fun _ _ x => x)
  obtain ⟨hT, h₂⟩ := h₂
  unfold subscriptTail
  refine wpAny_bind ?_
  rw [getitemInPython_of_ne hT.not_modules]
  refine wpAny_bind (wpAny_specialOf hT hl ?_)
  have fin : wpAny (model prog w) A (subscripted slice false o i) (fun r s₃ => wpAny (model prog w) A (letTemporaryGo value o r >>= fun _ => pure r) Q E s₃) E s₂ := by
    rw [hs o i]
    exact wpAny_operating (wpAny_mono h₂ (fun r s₃ h₃ => wpAny_bind (wpAny_letTemporaryGo (wpAny_pure h₃))) fun _ _ x => x)
  first
    | exact wpAny_pure (wpAny_bind fin)
    | exact wpAny_bind (wpAny_pure (wpAny_bind fin))
    | exact wpAny_bind fin
theorem dict_typeIs {X : Cx} {pins : List (Addr × Obj)} {σ : St} {H : Hp} {s : Shared} {a : Addr} {y : V} {o : Option V} (I : Inv X pins σ H s) (g : DGet H a y o) : s.TypeIs (.ref a) "dict" := by
  rcases g with ⟨kvs, k, e, _, _⟩ | ⟨kvs, k, b, e, _, _, _⟩
  · obtain ⟨_, _, vs, _, dd⟩ := dk_rd I.hok e
    exact dd.typeIs
  · obtain ⟨_, _, xs, _, dd⟩ := dt_rd I.hok e
    exact dd.typeIs
def tDGet (td ty : TE) : TE := fun σ H Q => td σ H fun x H1 => ty σ H1 fun y H2 => ∃ a v, x = .ref a ∧ DGet H2 a y (some v) ∧ Q v H2
section
variable {X : Cx} {o i e value : Expr} {pos pos' tpos : Pos} {td ty tv : TE}
theorem pe_dget (hu : X.A.units + 1 < cLine) (ho : PE X o td) (hi : PE X i ty) (hs : NoSl i) : PE X (.Subscript o i pos) (tDGet td ty) := by
  intro pins s σ H Q I h
  refine subD_of PySem.F.slot_dict_getitem.lookup hs (thn (ho pins s σ H _ I h) fun u s1 ⟨x, H1, I1, rx, q1⟩ => thn (hi pins s1 σ H1 _ I1 q1) fun iv s2 ⟨y, H2, I2, ry, a, v, ex, g, q2⟩ => ?_)
  subst ex
  obtain rfl : u = Value.ref a := rx
  exact ⟨dict_typeIs I2 g, d_getItem hu I2 g ry fun w' s3 I3 rw' => ⟨v, H2, I3, rw', q2⟩⟩
end
theorem dk_empty {P : Program} {w : World} {H : Hp} (h : Heap) (hb : sysModules < h.objs.size) : ObjOk P w H (h.push { cls := .type "dict", data := .dict #[] }) h.objs.size (.dK []) :=
  ⟨Nat.zero_le _, beq_eq_false_iff_ne.mpr (Ne.symm (Nat.ne_of_lt hb)), [], .nil, Heap.DictOf.new h⟩
theorem dt_empty {P : Program} {w : World} {H : Hp} (h : Heap) (hb : sysModules < h.objs.size) : ObjOk P w H (h.push { cls := .type "dict", data := .dict #[] }) h.objs.size (.dT []) :=
  ⟨Nat.zero_le _, beq_eq_false_iff_ne.mpr (Ne.symm (Nat.ne_of_lt hb)), [], .nil, _, #[], 0, Heap.get?_push_size _ rfl, ⟨rfl, rfl, rfl⟩, rfl, rfl, List.nodup_nil⟩
def tDNewK : TE := fun _ H Q => ∀ p, H p = none → Q (.ref p) (upd H p (.dK []))
def tDNewT : TE := fun _ H Q => ∀ p, H p = none → Q (.ref p) (upd H p (.dT []))
section
variable {X : Cx} {pos : Pos}
theorem pe_dnewK : PE X (.Dict [] [] pos) tDNewK := fun pins s σ H Q I h =>
  wpAny_Dict_empty ⟨.ref s.heap.objs.size, _, I.laid (a := s.heap.objs.size) (o := .dK []) (t' := s.toks) (fun _ _ q => Heap.get?_push_of_some _ q) (Nat.le_refl _) (dk_empty s.heap I.big), rfl, h _ (I.hok.fresh (Nat.le_refl _))⟩
theorem pe_dnewT : PE X (.Dict [] [] pos) tDNewT := fun pins s σ H Q I h =>
  wpAny_Dict_empty ⟨.ref s.heap.objs.size, _, I.laid (a := s.heap.objs.size) (o := .dT []) (t' := s.toks) (fun _ _ q => Heap.get?_push_of_some _ q) (Nat.le_refl _) (dt_empty s.heap I.big), rfl, h _ (I.hok.fresh (Nat.le_refl _))⟩
end
structure M1 (X : Cx) (o : Expr) (m : Str) (apos : Pos) (e : Expr) (cpos : Pos) : Prop where
  base : attributeBase o m X.env (eval o X.env) = eval o X.env
  few : ((backTo cpos (starEach [e] X.env)).all (fun x => !x.1) && (backToKw cpos (keywordEach [] X.env)).all (fun x => x.1.isSome)
    && decide (([e] : List Expr).length + ([] : List Keyword).length + (if ([] : List Keyword).isEmpty then 0 else 1) < 30)) = true
  line : (apos.endLine == cpos.line) = true
  trees : backTo cpos (starEach [e] X.env) = [(false, eval e X.env)]
def IsD (H : Hp) (a : Addr) : Prop := (∃ kvs, Rd H a (.dK kvs)) ∨ ∃ kvs, Rd H a (.dT kvs)
theorem isD_at {X : Cx} {pins : List (Addr × Obj)} {σ : St} {H : Hp} {s : Shared} {a : Addr} (I : Inv X pins σ H s) (d : IsD H a) :
    s.TypeIs (.ref a) "dict" ∧ (∀ b, Value.ref a = .ref b → ∃ ob, s.heap.get? b = some ob ∧ ob.dict = none) ∧ (a == sysModules) = false := by
  rcases d with ⟨kvs, e⟩ | ⟨kvs, e⟩
  · obtain ⟨_, hd, vs, _, dd⟩ := dk_rd I.hok e
    refine ⟨dd.typeIs, fun b q => ?_, hd⟩
    cases q
    obtain ⟨ob, _, _, h1, h2, _⟩ := dd
    exact ⟨ob, h1, h2.2.1⟩
  · obtain ⟨_, hd, xs, _, dd⟩ := dt_rd I.hok e
    refine ⟨dd.typeIs, fun b q => ?_, hd⟩
    cases q
    obtain ⟨ob, _, _, h1, h2, _⟩ := dd
    exact ⟨ob, h1, h2.2.1⟩
section
variable {X : Cx} {pins : List (Addr × Obj)} {σ : St} {H : Hp} {s : Shared} {a : Addr} {y d : V} {u r : Value} {o : Option V} {A : Around} {E : Value → Shared → Prop}
theorem d_get1 {Q : Value → Shared → Prop} (hu : A.units + 1 < cLine) (I : Inv X pins σ H s) (g : DGet H a y o) (ry : RelV y u) (h : ∀ w' s', Inv X pins σ H s' → RelV (o.getD .non) w' → Q w' s') :
    wpAny (model X.prog X.w) A (call (.builtin "dict.get") [.ref a, u]) Q E s := by
  rcases g with ⟨kvs, k, e, ey, l⟩ | ⟨kvs, k, b, e, ey, eb, l⟩
  · subst ey
    obtain ⟨z, hd, vs, rel, dd⟩ := dk_rd I.hok e
    refine call_meetsIn PySem.F.slot_dict_get dd.typeIs PySem.F.entry_dict_get (PySem.F.args_dict_get_2 _ _) (meets_dict_get (mixKind X.prog X.w) a (kV_is ry) hd) ⟨_, dd.mapOf, h _ _ (I.tok _) ?_⟩
    rw [l]
    exact (rel.val k).getD rfl
  · subst ey
    cases (show u = Value.ref b from ry)
    obtain ⟨z, hd, xs, rel, dd⟩ := dt_rd I.hok e
    refine call_meetsIn PySem.F.slot_dict_get dd.typeIs PySem.F.entry_dict_get (PySem.F.args_dict_get_2 _ _) (meetsH_dict_get (tupleKind (mixKind X.prog X.w)) a b hd) ⟨tupleKind_room_in1 hu, k, xs, key_of I.hok eb, dd, h _ _ (I.tok _) ?_⟩
    rw [l]
    exact (rel.val k).getD rfl
end
def tDGet1 (td ty : TE) : TE := fun σ H Q => td σ H fun x H1 => ∃ a, x = .ref a ∧ IsD H1 a ∧ ty σ H1 fun y H2 => ∃ o, DGet H2 a y o ∧ Q (o.getD .non) H2
section
variable {X : Cx} {o e f : Expr} {apos cpos : Pos} {td ty tx : TE}
theorem pe_dget1 (hu : X.A.units + 1 < cLine) (ho : PE X o td) (he : PE X e ty) (m : M1 X o "get" apos e cpos) : PE X (.Call (.Attribute o "get" apos) [e] [] cpos) (tDGet1 td ty) := by
  intro pins s σ H Q I h
  refine wpAny_Call_method m.base m.few m.line PySem.F.plainAttrs_dict PySem.F.slot_dict_get PySem.F.type_dict_get (thn (ho pins s σ H _ I h) fun u s1 ⟨x, H1, I1, rx, a, ex, d, q1⟩ => ?_)
  subst ex
  obtain rfl : u = Value.ref a := rx
  obtain ⟨t1, t2, _⟩ := isD_at I1 d
  refine ⟨t1, t2, ?_⟩
  rw [m.trees]
  refine Calls.callWith_builtin rfl (Calls.evalArgs_plain (Calls.spliced_cons (thn (he pins s1 σ H1 _ I1 q1) fun iv s2 ⟨y, H2, I2, ry, ov, g, q2⟩ => Calls.spliced_nil ?_)))
  exact d_get1 hu I2 g ry fun w' s3 I3 rw' => ⟨_, H2, I3, rw', q2⟩
end
section
variable {X : Cx} {pins : List (Addr × Obj)} {σ : St} {H : Hp} {s : Shared} {a : Addr} {kvs : List (Key × V)} {A : Around} {E : Value → Shared → Prop}
end
section
variable {X : Cx} {pins : List (Addr × Obj)} {σ : St} {H : Hp} {s : Shared} {a : Addr} {y : V} {u : Value} {A : Around} {E : Value → Shared → Prop}
end
end L2
namespace Att
open PySem PySem.W PySem.Calls PyProof.Rows
theorem ints_of_wellAll {P : Params} {h : Heap} : ∀ (ns : List Int) (vs : List Value), WellAll P h vs (ns.map WData.int) → IntsAre vs ns := by
  intro ns
  induction ns with
  | nil =>
    intro vs w
    rw [List.map_nil] at w
    cases w
    exact .nil
  | cons n ns ih =>
    intro vs w
    rw [List.map_cons] at w
    cases w with
    | cons a b =>
      cases a
      exact .cons _ _ (ih _ b)
theorem script_of {l : OpenLaw} {n : Nat} (hn : l.most = some n) {P : Params} {h : Heap} {args : List WData} {vals : List Value}
    (hpre : l.row.toRowW.claim.pre args = true) (hwl : WellAll P h vals args) :
    ∃ a vs ns, vals = [Value.ref a] ∧ args = [WData.list (ns.map WData.int)] ∧ h.get? a = some { cls := .type "list", data := .seq vs.toArray } ∧ IntsAre vs ns ∧ ns.length ≤ n := by
  have hsh : WShape.hasAll [] args [.list .int] = true := (pre_splitW hpre).1
  have hc : l.pre.holds [] { args := args } = true := (pre_splitW hpre).2
  obtain ⟨d, r, rfl, h1, h2⟩ := hasAllW_cons hsh
  obtain rfl := hasAllW_nil h2
  obtain ⟨xs, rfl, h3⟩ := hasW_list h1
  obtain ⟨ns, rfl⟩ := items_int h3
  have hlen : ns.length ≤ n := by
    unfold OpenLaw.pre at hc
    have h4 : (WTm.not (.lt (.lit (.int (n : Int))) (.len (.arg 0)))).holds [] { args := [.list (ns.map .int)] } = true := by
      have h4 := (holds_andW hc).1
      rw [hn] at h4
      exact h4
    have h5 := condW_of h4 (w_not (w_lt w_lit (w_len_list (w_arg rfl))))
    rw [List.length_map] at h5
    refine Nat.le_of_not_lt fun q => ?_
    have q' : (n : Int) < ((ns.length : Nat) : Int) := by omega
    first
      | (rw [decide_eq_true q'] at h5; exact absurd h5 (by decide))
      | (simp at h5; omega)
  cases hwl with
  | cons w1 w2 =>
    cases w2
    cases w1 with
    | list ho hall => exact ⟨_, _, ns, rfl, rfl, ho, ints_of_wellAll ns _ hall, hlen⟩
theorem post_true (l : OpenLaw) (args : List WData) : l.row.toRowW.claim.post args (.bool true) args = true :=
  postW_of (r := l.row.toRowW) (X := (true == true))
    (show WShape.has [] (.bool true) .bool = true by first | rfl | decide | simp [WShape.has, WShape.arms, WShape.armsAll])
    (show (WTm.eq .res (.lit (.bool true))).value [] { args := args, res := some (.bool true), after := args } = some (.bool (true == true)) from w_eq_bool (w_res rfl) w_lit) rfl
section
variable {prog : Program} {w : World} {A : Around} {E : Value → Shared → Prop} {s : Shared} {K : Frag}
end
end Att
namespace L2
open PySem PySem.Spec PyProof.Rows
theorem vals_ints : ∀ {vs : List Value} {ns : List Int}, IntsAre vs ns → Vals (ns.map V.int) vs
  | _, _, .nil => .nil
  | _, _, .cons n t h => .cons ⟨t, rfl⟩ (vals_ints h)
def Only (H : Hp) : Prop := ∀ b, H b = none ∨ ∃ o xs, H b = some (.frz o (.lst xs))
theorem law_call {P : Program} {w : World} {K : PySem.W.Frag} {mg mb : Str → Option Value} {CX : CXT} {k : Nat} {fa a : Addr} {fd : FuncData} {x : Str} {sp : Sp} {s₁ : Shared} {vs : List Value} {ns : List Int}
    (KX : K.In s₁.heap) (hns : s₁.heap.Ns mainGlobals mg) (hb : s₁.heap.Ns builtinsNs mb) (hbb : ∀ x : Str, x ≠ "__name__" → mb x = bootBuiltins x) (hlim : s₁.heap.NoLimit) (hg : s₁.gens = #[]) (htk : 0 < s₁.toks)
    (ha : s₁.heap.get? a = some { cls := .type "list", data := .seq vs.toArray }) (hi : IntsAre vs ns) (hl : ns.length ≤ sizeLine) (hr : Room k callerA)
    (F : ∀ base : Heap, K.In base → base.Ns mainGlobals mg → FnOk P w K mg base CX k fa fd [x] sp) (hbind : ∀ (s : Shared) (u : Value), BindsTo s fd ⟨[u], []⟩ [(x, u)])
    (hsp : ∀ H : Hp, Only H → SqL K H a (ns.map V.int) → sp [.ref a] H (fun v _ => v = .bl true) fun _ _ _ => False)
    (hCX : ∀ H e s', CX [] H s₁ (fun _ _ _ => False) e s' → False) :
    codeAny (model P w) callerA (.call (.ref fa) ⟨[.ref a], []⟩) (fun r s' => r = .ok (.ret (.bool true)) ∧ OldK s₁.heap s'.heap ∧ s'.os = s₁.os ∧ AllBare s'.gens) s₁ := by
  have rv := vals_ints hi
  have lenV := hi.length
  have core : ∀ H : Hp, Only H → SqL K H a (ns.map V.int) → HOk P w H s₁.heap → (∀ b, H b ≠ none → b = a) → (H a ≠ none → K.lookup a = none) →
      codeAny (model P w) callerA (.call (.ref fa) ⟨[.ref a], []⟩) (fun r s' => r = .ok (.ret (.bool true)) ∧ OldK s₁.heap s'.heap ∧ s'.os = s₁.os ∧ AllBare s'.gens) s₁ := by
    intro H hO hS hok hA hK
    have base_of : ∀ {b : Addr} {o : Obj}, s₁.heap.get? b = some o → H b = none → (hidT s₁.heap H).get? b = some o := fun e n => hidT_get e n
    have noA : ∀ {b : Addr} {o : Obj} {es : Array DictEntry} {ep : Nat}, s₁.heap.get? b = some o → o.data = .dict es ep → H b = none := fun {b o es ep} e d => by
      cases q : H b with
      | none => rfl
      | some u =>
        have e' : b = a := hA b (by rw [q]; simp)
        subst e'
        rw [ha] at e; cases e
        have d' : Data.seq vs.toArray _ = Data.dict es ep := d
        cases d'
    have nsK : ∀ {b : Addr} {m : Str → Option Value}, s₁.heap.Ns b m → (hidT s₁.heap H).Ns b m := fun {b m} ⟨o, es, ep, e, d, r⟩ => ⟨o, es, ep, base_of e (noA e d), d, r⟩
    have hKb : K.In (hidT s₁.heap H) := fun b o e => base_of (KX b o e) (by
      cases q : H b with
      | none => rfl
      | some u =>
        have e' : b = a := hA b (by rw [q]; simp)
        subst e'
        rw [hK (by rw [q]; simp)] at e; cases e)
    have hM : Mod K mg (hidT s₁.heap H) := ⟨hKb, nsK hns, ⟨mb, nsK hb, hbb⟩, let ⟨mc, h1, h2⟩ := hlim; ⟨mc, nsK h1, h2⟩⟩
    have e0 : Env0 P w K mg (hidT s₁.heap H) callerA [] s₁ H := ⟨rfl, hM, fun b o e => of_hidT e, Nat.le_of_eq (hidT_size _ _), trivial, fun b hb => absurd (show b ∈ ([] : List Addr) from hb) (by simp), hok, .of_eq hg, htk⟩
    refine codeAny_mono ((F _ hKb (nsK hns)).run callerA [] s₁ H ⟨[.ref a], []⟩ [.ref a] [.ref a] _ _ hr e0 (hbind s₁ (.ref a)) (.cons rfl .nil) (hsp H hO hS)) fun r s' h => ?_
    cases r with
    | error e => exact (hCX H e s' h).elim
    | ok fl =>
      cases fl with
      | next => exact False.elim h
      | brk => exact False.elim h
      | cont => exact False.elim h
      | ret u =>
        obtain ⟨v, H', _, os, bare, un, hok', r', q⟩ := h
        have q' : v = .bl true := q
        subst q'
        obtain rfl : u = Value.bool true := r'
        refine ⟨rfl, OldK.of_keep fun b o e => ?_, os, bare⟩
        cases q : H b with
        | none => exact un.keep b o e q (by intro z; exact absurd (show b ∈ ([] : List Addr) from z) (by simp)) (by simp)
        | some u =>
          rcases hO b with z | ⟨ob, xs, z⟩
          · rw [q] at z; cases z
          · have z2 := un.frzs b ob _ z
            obtain ⟨e1, _⟩ := hok b _ z
            obtain ⟨e2, _⟩ := hok' b _ z2
            rw [e] at e1; cases e1
            exact e2
  cases hk : K.lookup a with
  | some o =>
    have e := KX a o hk
    rw [ha] at e
    cases e
    refine core (fun _ => none) (fun _ => .inl rfl) (.inr ⟨_, vs.toArray, _, hk, rfl, rfl, rfl, by rw [List.size_toArray, lenV]; exact hl, by simpa using rv⟩) (fun b u z => by have z' : (none : Option HO) = some u := z; cases z') (fun b z => absurd rfl z) fun z => absurd rfl z
  | none =>
    refine core (fun b => if b = a then some (.frz { cls := .type "list", data := .seq vs.toArray } (.lst (ns.map V.int))) else none) (fun b => ?_) (.inl (.inr ⟨{ cls := .type "list", data := .seq vs.toArray }, if_pos rfl⟩)) (fun b u z => ?_) (fun b z => ?_) fun _ => hk
    · by_cases hb : b = a
      · exact .inr ⟨_, _, if_pos hb⟩
      · exact .inl (if_neg hb)
    · by_cases hb : b = a
      · have z' := (if_pos hb).symm.trans z
        cases z'
        subst hb
        exact ⟨ha, by rw [List.length_map]; exact hl, vs, _, rv, ha⟩
      · have z' := (if_neg hb).symm.trans z
        cases z'
    · by_cases hb : b = a
      · exact hb
      · exact absurd (if_neg hb) z
end L2
namespace L2
open PySem PySem.Spec PyProof.Rows
theorem ofPys_ints : ∀ ns : List Int, PySem.W.ofPys (ns.map PyData.int) = ns.map PySem.W.WData.int
  | [] => by simp [PySem.W.ofPys]
  | n :: ns => by simp only [List.map_cons, PySem.W.ofPys, PySem.W.ofPy]; rw [ofPys_ints ns]
theorem walk_of {l : PySem.W.OpenLaw} {n k : Nat} {q : Program} {loose : List Str} {XP : (Str → Option Value) → Heap → Prop} {as : List Addr} {z t : Nat} {d : DefRec} {K : Params → PySem.W.Frag} {CX : World → CXT} {sp : World → Sp} {x : Str}
    (hn : l.most = some n) (hn2 : n ≤ sizeLine) (hdf : d.params.defaults = []) (hr : Room k callerA) (hk : ∀ P, as = (K P).map (·.1)) (h0 : 0 < t)
    (F : ∀ (w : World) (mg : Str → Option Value) (fa : Addr) (h : Heap), (K w.params).In h → h.Ns mainGlobals mg → mg d.name = some (.ref fa) →
      ∃ fd : FuncData, (∀ (s : Shared) (u : Value), BindsTo s fd ⟨[u], []⟩ [(x, u)]) ∧
        ∀ base : Heap, (K w.params).In base → base.Ns mainGlobals mg → FnOk l.prog w (K w.params) mg base (CX w) k fa fd [x] (sp w))
    (hsp : ∀ (w : World) (H : Hp) (a : Addr) (ns : List Int), ns.length ≤ n → Only H → SqL (K w.params) H a (ns.map V.int) → sp w [.ref a] H (fun v _ => v = .bl true) fun _ _ _ => False)
    (hCX : ∀ (w : World) (H : Hp) (s : Shared) (e : Value) (s' : Shared), CX w [] H s (fun _ _ _ => False) e s' → False) :
    PySem.W.WalkX q loose XP (PySem.W.X.obsZ as) (PySem.W.X.valZ K z t) l.row.toRowW d [] (fun f vs => PySem.call f vs) := by
  intro w s₀ s₁ mg mb G y fa o pm cd doc dV kV ho hd hcd hD hmg hg args vals aa L hpre hlay hrd hwl hlo
  obtain rfl : dV = .none := PySem.W.Dflts.none hD hdf
  obtain rfl : kV = .none := PySem.W.Dflts.noKw hD
  obtain ⟨a, vs, ns, rfl, rfl, hobj, hints, hlen⟩ := Att.script_of hn hpre hwl
  obtain ⟨_, KI, _, htk⟩ := PySem.W.X.z_facts hk y
  have KX := PySem.W.InK.keeps w _ _ KI L.keeps
  have tk : 0 < s₁.toks := Nat.lt_of_lt_of_le h0 (PySem.W.X.script_toks (ns := ns) (a := a) (by rw [PySem.W.ofPy, ofPys_ints]; exact L) htk)
  obtain ⟨fd, hb, hF⟩ := F w mg fa _ KX G.T.g hmg
  refine PySem.W.enter_call (codeAny_mono (law_call KX G.T.g G.T.b G.T.builtins G.T.nolimit hg tk hobj hints (Nat.le_trans hlen hn2) hr hF hb (fun H hO hS => hsp w H a ns hlen hO hS) fun H e s' => hCX w H s₁ e s') fun r s' hq => ?_)
  obtain ⟨rfl, h2, h3, h4⟩ := hq
  exact ⟨.inl ⟨.bool true, .bool true, [], rfl, fun _ => rfl, .bool true, Att.post_true l _, fun _ => ⟨List.Pairwise.nil, fun _ hm => (nomatch hm)⟩⟩, h2, h3, h4⟩
end L2
namespace L2
open PySem PySem.Spec PyProof.Rows
def defArgs (s : Stmt) : Arguments := match s with
  | .FunctionDef _ a _ _ _ _ _ _ _ _ => a
  | _ => { posonlyargs := [], args := [], vararg := none, kwonlyargs := [], kw_defaults := [], kwarg := none, defaults := [] }
def defBody (s : Stmt) : List Stmt := match s with
  | .FunctionDef _ _ b _ _ _ _ _ _ _ => b
  | _ => []
def defScope (s : Stmt) : Scope := match s with
  | .FunctionDef _ _ _ _ _ _ sc _ _ _ => sc
  | _ => { kind := .function, names := [], isGenerator := false, isCoroutine := false }
abbrev CX0 : CXT := fun _ _ _ _ _ _ => False
abbrev E0 : XK := fun _ _ _ => False
theorem pass0 {X : Cx} : Passes CX0 X E0 := fun _ _ _ _ _ _ _ h => h.elim
structure Fun (K : PySem.W.Frag) (x qual : Str) (st : Stmt) (f : Addr) (fd : FuncData) : Prop where
  ex : ∃ (oc : Value) (od : Option Addr) (kV doc pm : Value) (an : Option Addr) (cdv ct : Value) (osl : Array (Option Value)),
    fd = PySem.W.fnOf x qual (defArgs st) (defBody st) (defScope st) .none kV doc pm an cdv ct ∧ K.lookup f = some ⟨oc, od, .func fd, osl⟩ ∧ PySem.W.codeIn K cdv qual = true
  kp : PySem.W.keepIn K (.ref f) = true
section
variable {P : Program} {w : World} {K : PySem.W.Frag} {mg : Str → Option Value} {base : Heap}
theorem Fun.ok {x qual : Str} {st : Stmt} {f : Addr} {fd : FuncData} {N ps : List Str} {k : Nat} {sp : Sp} (F : Fun K x qual st f fd) (S : FnScope N ps (defScope st)) (len : ∀ vs H Q E, sp vs H Q E → vs.length = ps.length)
    (hbody : ∀ (cdv : Value) (A : Around) (outer : List Env) (s : Shared) (H : Hp) (vs : List V) (Q : VK) (E : XK), Room k (A.deeper (envOfC qual (defScope st) s.heap.objs.size f cdv)) → sp vs H Q E →
      ∃ t, PSs (cxOf CX0 P w K mg base N qual (defScope st) f cdv A outer s H E).nox (defBody st) t ∧ t { nx := fun _ H' => Q .non H', rt := Q } (start N vs) H) : FnOk P w K mg base CX0 (k + 1) f fd ps sp := by
  obtain ⟨oc, od, kV, doc, pm, an, cdv, ct, osl, rfl, lk, hcd⟩ := F.ex
  refine fn_of lk hcd S len fun A outer s H vs Q E hr hsp => ?_
  obtain ⟨t, h, q⟩ := hbody cdv A outer s H vs Q E hr hsp
  exact ⟨t, h.nox, q⟩
theorem Fun.binds {x qual : Str} {st : Stmt} {f : Addr} {fd : FuncData} {ps : List Str} (F : Fun K x qual st f fd)
    (h : ∀ (kV doc pm : Value) (an : Option Addr) (cdv ct : Value) (us : List Value), us.length = ps.length → bindArgs (PySem.W.fnOf x qual (defArgs st) (defBody st) (defScope st) .none kV doc pm an cdv ct) ⟨us, []⟩ = pure (ps.zip us)) : Binds K fd ps [] := by
  obtain ⟨oc, od, kV, doc, pm, an, cdv, ct, osl, rfl, lk, hcd⟩ := F.ex
  exact .all (h kV doc pm an cdv ct)
theorem fun_mk {x qual : Str} {st : Stmt} {f : Addr} {oc : Value} {od an : Option Addr} {osl : Array (Option Value)} {kV doc pm cdv ct : Value} (l : K.lookup f = some ⟨oc, od, .func (PySem.W.fnOf x qual (defArgs st) (defBody st) (defScope st) .none kV doc pm an cdv ct), osl⟩)
    (c : PySem.W.codeIn K cdv qual = true) (k : PySem.W.keepIn K (.ref f) = true) : Fun K x qual st f (PySem.W.fnOf x qual (defArgs st) (defBody st) (defScope st) .none kV doc pm an cdv ct) := ⟨⟨oc, od, kV, doc, pm, an, cdv, ct, osl, rfl, l, c⟩, k⟩
end
theorem hu_of {A : Around} {k : Nat} (hr : Room k A) : A.units + 1 < cLine := Nat.lt_of_le_of_lt (Nat.add_le_add_left (by decide : 1 ≤ 64) _) hr.units
section
variable {X : Cx}
theorem pv (i : Nat) {x : Str} {pos : Pos} (hN : X.N[i]? = some x := by rfl) (hv : Vis X.env.scope x := by first | exact Or.inl rfl | exact Or.inr (Or.inl rfl) | exact Or.inr (Or.inr rfl)) (hd : (x == ("__debug__" : Str)) = false := by decide)
    (hcd : (x == ("__classdict__" : Str)) = false := by decide) : PE X (.Name x pos) (tVar i) := pe_var hN hv hd hcd
end
theorem iteF {A B : Prop} (h : B) : if false = true then A else B := by
  rw [if_neg Bool.false_ne_true]
  exact h
theorem iteT {A B : Prop} (h : A) : if true = true then A else B := by
  rw [if_pos rfl]
  exact h
def Same (H H' : Hp) : Prop := ∀ b o, H b = some o → H' b = some o
theorem Same.refl (H : Hp) : Same H H := fun _ _ h => h
theorem Same.seq {K : PySem.W.Frag} {H H' : Hp} {a : Addr} {xs : List V} (e : Same H H') (h : SqL K H a xs) : SqL K H' a xs := by
  rcases h with (h | ⟨o, h⟩) | h
  · exact .inl (.inl (e _ _ h))
  · exact .inl (.inr ⟨o, e _ _ h⟩)
  · exact .inr h
section
variable {X : Cx}
theorem call_lenD : CallR X (.builtin "len") (fun xs H Q => ∃ a kvs, xs = [V.ref a] ∧ H a = some (.dK kvs) ∧ Q (.int kvs.length) H) := by
  intro pins s σ H xs us Q I r h
  obtain ⟨a, kvs, rfl, ha, q⟩ := h
  obtain ⟨u, rfl, ru⟩ := vals1 r
  cases ru
  exact d_len I (.inl ha) fun t s' I' => ⟨.int kvs.length, H, I', ⟨t, rfl⟩, q⟩
end
section
variable {κ : Type} [DecidableEq κ]
end
end L2
namespace L2
open PySem PySem.Spec PyProof.Rows
theorem noE {α : Type} {t : Sem α} {Q : α → Shared → Prop} {M : Model} {A : Around} {E : Value → Shared → Prop} {s : Shared} (h : wpAny M A t Q (fun _ _ => False) s) : wpAny M A t Q E s :=
  wpAny_mono h (fun _ _ q => q) fun _ _ z => False.elim z
theorem closure_ex {env : Env} : ∀ (names : List (Str × NameKind)) (acc : List (Str × Addr)), (∀ y ∈ names, y.2 = .free → ∃ c, env.cells.lookup y.1 = some c) → (∀ x c, acc.lookup x = some c → env.cells.lookup x = some c) →
    ∃ cl, (forIn names acc fun (x : Str × NameKind) (r : List (Str × Addr)) =>
        (if (x.2 == .free) = true then (do let a ← cellOf env x.1; pure (ForInStep.yield ((x.1, a) :: r))) else pure (ForInStep.yield r) : Sem (ForInStep (List (Str × Addr))))) = (pure cl : Sem (List (Str × Addr))) ∧
      (∀ x c, cl.lookup x = some c → env.cells.lookup x = some c) ∧ (∀ x, (∃ c, acc.lookup x = some c) → ∃ c, cl.lookup x = some c) ∧ ∀ y ∈ names, y.2 = .free → ∃ c, cl.lookup y.1 = some c
  | [], acc, _, h2 => ⟨acc, by rw [List.forIn_nil], h2, fun _ h => h, fun _ h => by cases h⟩
  | (n, k) :: r, acc, h1, h2 => by
    by_cases hk : k = .free
    · subst hk
      obtain ⟨c, hc⟩ := h1 (n, .free) List.mem_cons_self rfl
      obtain ⟨cl, e, q1, q2, q3⟩ := closure_ex r ((n, c) :: acc) (fun y hy => h1 y (List.mem_cons_of_mem _ hy)) (fun x d hd => by
        rw [List.lookup_cons] at hd
        cases hx : x == n with
        | true => rw [hx] at hd; cases hd; rw [beq_iff_eq.mp hx]; exact hc
        | false => rw [hx] at hd; exact h2 x d hd)
      refine ⟨cl, ?_, q1, fun x hx => q2 x ?_, fun y hy hf => ?_⟩
      · rw [List.forIn_cons]
        have e0 : cellOf env n = pure c := by unfold cellOf; rw [hc]
        simp only [beq_self_eq_true, if_true, e0]
        exact e
      · rw [List.lookup_cons]
        cases x == n with
        | true => exact ⟨c, rfl⟩
        | false => exact hx
      · rcases List.mem_cons.mp hy with rfl | hy
        · exact q2 n ⟨c, by rw [List.lookup_cons]; simp⟩
        · exact q3 y hy hf
    · obtain ⟨cl, e, q1, q2, q3⟩ := closure_ex r acc (fun y hy => h1 y (List.mem_cons_of_mem _ hy)) h2
      refine ⟨cl, ?_, q1, q2, fun y hy hf => ?_⟩
      · rw [List.forIn_cons]
        have hb : (k == NameKind.free) = false := by simpa using hk
        simp only [hb, Bool.false_eq_true, if_false]
        exact e
      · rcases List.mem_cons.mp hy with rfl | hy
        · exact absurd hf hk
        · exact q3 y hy hf
theorem closureFor_ex {env : Env} {scope : Scope} (h : ∀ y ∈ scope.names, y.2 = .free → ∃ c, env.cells.lookup y.1 = some c) :
    ∃ cl, closureFor scope env = pure cl ∧ (∀ x c, cl.lookup x = some c → env.cells.lookup x = some c) ∧ ∀ y ∈ scope.names, y.2 = .free → ∃ c, cl.lookup y.1 = some c := by
  obtain ⟨cl, e, q1, _, q3⟩ := closure_ex (env := env) scope.names [] h (fun x c hc => by simp at hc)
  refine ⟨cl, ?_, q1, q3⟩
  unfold closureFor
  simp only []
  rw [show (forIn scope.names ([] : List (Str × Addr)) fun (x : Str × NameKind) (r : List (Str × Addr)) =>
        (match x with | (name, kind) => if (kind == .free) = true then (do let a ← cellOf env name; pure (ForInStep.yield ((name, a) :: r))) else pure (ForInStep.yield r) : Sem (ForInStep (List (Str × Addr))))) = (pure cl : Sem (List (Str × Addr))) from e]
  rfl
theorem lookup_relabel_free {env : Env} : ∀ {names : List (Str × NameKind)} {x : Str}, names.lookup x = some .free →
    (names.map fun (n, k) => if (k == NameKind.free && env.scope.kind == .function && env.kindOf n == some .cell) then (n, NameKind.cell) else (n, k)).lookup x = some .cell ∨
    (names.map fun (n, k) => if (k == NameKind.free && env.scope.kind == .function && env.kindOf n == some .cell) then (n, NameKind.cell) else (n, k)).lookup x = some .free
  | [], _, h => by simp at h
  | (n, k) :: r, x, h => by
    have ih := @lookup_relabel_free env r x
    show List.lookup x ((if (k == NameKind.free && env.scope.kind == .function && env.kindOf n == some .cell) = true then (n, NameKind.cell) else (n, k)) :: _) = _ ∨ List.lookup x ((if (k == NameKind.free && env.scope.kind == .function && env.kindOf n == some .cell) = true then (n, NameKind.cell) else (n, k)) :: _) = _
    cases hx : x == n with
    | true =>
      simp only [List.lookup_cons, hx] at h
      cases h
      by_cases hc : (NameKind.free == NameKind.free && env.scope.kind == .function && env.kindOf n == some .cell) = true
      · rw [if_pos hc]; exact .inl (by simp only [List.lookup_cons, hx])
      · rw [if_neg hc]; exact .inr (by simp only [List.lookup_cons, hx])
    | false =>
      simp only [List.lookup_cons, hx] at h
      by_cases hc : (k == NameKind.free && env.scope.kind == .function && env.kindOf n == some .cell) = true
      · rw [if_pos hc]; simp only [List.lookup_cons, hx]; exact ih h
      · rw [if_neg hc]; simp only [List.lookup_cons, hx]; exact ih h
theorem lookup_relabel_back {env : Env} : ∀ {names : List (Str × NameKind)} {x : Str} {k : NameKind},
    (names.map fun (n, k) => if (k == NameKind.free && env.scope.kind == .function && env.kindOf n == some .cell) then (n, NameKind.cell) else (n, k)).lookup x = some k →
    names.lookup x = some k ∨ (k = .cell ∧ names.lookup x = some .free)
  | [], _, _, h => by simp at h
  | (n, j) :: r, x, k, h => by
    have ih := @lookup_relabel_back env r x k
    have h : List.lookup x ((if (j == NameKind.free && env.scope.kind == .function && env.kindOf n == some .cell) = true then (n, NameKind.cell) else (n, j)) :: _) = some k := h
    by_cases hc : (j == NameKind.free && env.scope.kind == .function && env.kindOf n == some .cell) = true
    · rw [if_pos hc] at h
      cases hx : x == n with
      | true =>
        simp only [List.lookup_cons, hx] at h ⊢
        cases h
        have : j = .free := by
          cases j <;> simp at hc ⊢
        exact .inr ⟨rfl, by rw [this]⟩
      | false => simp only [List.lookup_cons, hx] at h ⊢; exact ih h
    · rw [if_neg hc] at h
      cases hx : x == n with
      | true => simp only [List.lookup_cons, hx] at h ⊢; exact .inl h
      | false => simp only [List.lookup_cons, hx] at h ⊢; exact ih h
theorem codeAny_compLoop_gen {prog : Program} {w : World} {A : Around} {R : Result → Shared → Prop} {s : Shared} {elt target iter : Expr} {ifs : List Expr} {scope : Scope} {pos : Pos} {it acc : Value} {env : Env} (I : Nat → Shared → Prop)
    (turn : ∀ n s, I n s → wpAny (model prog w) A (pyNext it) (fun r s₁ => match r with
      | none => R (.ok .next) s₁
      | some v => wpAny (model prog w) A (letOwnedTupleGo target it v) (fun _ s₁' => wpAny (model prog w) A (assign target env v) (fun _ s₂ =>
          wpAny (model prog w) A (forIn ifs true fun c r => if r = true then do let ok ← isTrue c env (eval c env); pure (ForInStep.yield ok) else pure (ForInStep.yield r)) (fun ok s₃ =>
            if ok = true then wpAny (model prog w) A (eval elt env) (fun x s₄ =>
              wpAny (model prog w) A (call (.builtin "list.append") [acc, x]) (fun _ s₅ => ∃ m, m < n ∧ I m s₅) (notedBy (model prog w) A env fun e s' => R (.error e) s') s₄) (notedBy (model prog w) A env fun e s' => R (.error e) s') s₃
            else ∃ m, m < n ∧ I m s₃) (notedBy (model prog w) A env fun e s' => R (.error e) s') s₂) (notedBy (model prog w) A env fun e s' => R (.error e) s') s₁') (notedBy (model prog w) A env fun e s' => R (.error e) s') s₁)
      (notedBy (model prog w) A env fun e s' => R (.error e) s') s)
    (n : Nat) (h : I n s) :
    codeAny (model prog w) A (.compLoop (.ListComp elt [⟨target, iter, ifs, 0⟩] scope pos) 0 it acc env) R s := by
  refine codeAny_loop rfl I (fun n s hI => ?_) n h
  show wpAny _ A ((compTurn (.ListComp elt [⟨target, iter, ifs, 0⟩] scope pos) 0 it acc env).onRaise (fun x => do noteFrame x env; theTreesLotGoes x)) _ _ s
  refine wpAny_noted ?_
  rw [compTurn_list]
  refine wpAny_bind (wpAny_standAt (wpAny_bind (wpAny_mono (turn n s hI) (fun r s₁ h₁ => ?_) fun _ _ h' => h')))
  cases r with
  | none => exact wpAny_pure h₁
  | some v =>
    refine wpAny_bind (wpAny_mono h₁ (fun _ s₁' h₁' => ?_) fun _ _ h' => h')
    refine wpAny_bind (wpAny_mono h₁' (fun _ s₂ h₂ => wpAny_bind (wpAny_mono h₂ (fun ok s₃ h₃ => ?_) fun _ _ h' => h')) fun _ _ h' => h')
    cases ok with
    | false => exact wpAny_pure ⟨rfl, h₃⟩
    | true =>
      exact wpAny_bind (wpAny_bind (wpAny_mono h₃ (fun x s₄ h₄ => wpAny_bind (wpAny_mono h₄ (fun _ s₅ h₅ => wpAny_pure (wpAny_pure ⟨rfl, h₅⟩)) fun _ _ h' => h')) fun _ _ h' => h'))
def blk (X : Cx) (N : List Str) (scope : Scope) (cl : List (Str × Addr)) (C : Addr) (s₂ : Shared) (H₂ : Hp) (fp : List Addr) (pn : List (Addr × Obj)) : Cx :=
  { X with N := N, s₀ := s₂, H₀ := H₂, env := compEnvC scope cl C X.env, outer := X.stack, stack := X.stack, ex := fp, fn := fun _ => false, pn := pn, xe := fun _ _ => False }
def grab (fr : List (Option Nat)) (σ : St) : St := fr.map fun o => match o with | some i => (σ[i]?).join | none => none
theorem grab_get {fr : List (Option Nat)} {σ : St} {j : Nat} {v : V} (h : (grab fr σ)[j]? = some (some v)) : ∃ i, fr[j]? = some (some i) ∧ σ[i]? = some (some v) := by
  unfold grab at h
  rw [List.getElem?_map] at h
  cases e : fr[j]? with
  | none => rw [e] at h; cases h
  | some o =>
    rw [e] at h
    cases o with
    | none => cases h
    | some i =>
      refine ⟨i, rfl, ?_⟩
      have h' : (σ[i]?).join = some v := Option.some.inj h
      cases e2 : σ[i]? with
      | none => rw [e2] at h'; cases h'
      | some x => rw [e2] at h'; cases x with
        | none => cases h'
        | some y => cases h'; rfl
def TgOk (fr : List (Option Nat)) (g : TG) : Prop := ∀ (x : V) (σ : St) (H : Hp) (Q : St → Hp → Prop), g x σ H Q → g x σ H fun σ2 H2 => Q σ2 H2 ∧ ∀ (j i : Nat), fr[j]? = some (some i) → σ2[j]? = σ[j]?
theorem tg_name {fr : List (Option Nat)} {i : Nat} (h : fr[i]? = some none := by rfl) : TgOk fr (gName i) := fun x σ H Q q => ⟨q, fun j k hj => by
  have : i ≠ j := by rintro rfl; rw [h] at hj; cases hj
  rw [List.getElem?_set_ne this]⟩
def PTs (X : Cx) (ifs : List Expr) (t : TT) : Prop :=
  ∀ (pins : List (Addr × Obj)) (s : Shared) (σ : St) (H : Hp) (Q : Bool → Hp → Prop), Inv X pins σ H s → t σ H Q →
    wpAny (model X.prog X.w) X.A (forIn ifs true fun c r => if r = true then do let ok ← isTrue c X.env (eval c X.env); pure (ForInStep.yield ok) else pure (ForInStep.yield r)) (TP X pins σ Q) X.xe s
def tTT : TT := fun _ H Q => Q true H
theorem pts_nil {X : Cx} : PTs X [] tTT := fun _ _ _ H _ I h => wpAny_tests_nil ⟨H, I, h⟩
theorem pts_one {X : Cx} {c : Expr} {t : TT} (h : PT X c t) : PTs X [c] t := fun pins s σ H Q I hq => wpAny_tests_one (h pins s σ H Q I hq)
structure CompScope (X : Cx) (scope : Scope) (N : List Str) (fr : List (Option Nat)) : Prop where
  kind : scope.kind = .function
  nocell : ∀ y ∈ scope.names, y.2 ≠ .cell
  names : ∀ y ∈ scope.names, y.2 = .local → scope.names.lookup y.1 = some .local
  free : ∀ y ∈ scope.names, y.2 = .free → X.env.scope.names.lookup y.1 = some .cell ∨ X.env.scope.names.lookup y.1 = some .free
  len : N.length = fr.length
  at_ : ∀ (j i : Nat) (x : Str), fr[j]? = some (some i) → N[j]? = some x → X.N[i]? = some x ∧ scope.names.lookup x = some .free
def compChk (osc : Scope) (ON : List Str) (scope : Scope) (N : List Str) (fr : List (Option Nat)) : Bool :=
  decide (scope.kind = .function) && scope.names.all (fun y => decide (y.2 ≠ .cell)) && scope.names.all (fun y => decide (y.2 ≠ .local) || decide (scope.names.lookup y.1 = some .local)) &&
  scope.names.all (fun y => decide (y.2 ≠ .free) || decide (osc.names.lookup y.1 = some .cell) || decide (osc.names.lookup y.1 = some .free)) && decide (N.length = fr.length) &&
  (fr.zip N).all (fun p => match p.1 with | some i => decide (ON[i]? = some p.2) && decide (scope.names.lookup p.2 = some .free) | none => true)
theorem comp_scope {X : Cx} {osc : Scope} {ON : List Str} {scope : Scope} {N : List Str} {fr : List (Option Nat)} (h : compChk osc ON scope N fr = true) (e1 : X.env.scope = osc) (e2 : X.N = ON) : CompScope X scope N fr := by
  subst e1 e2
  unfold compChk at h
  simp only [Bool.and_eq_true, List.all_eq_true, Bool.or_eq_true, decide_eq_true_eq] at h
  obtain ⟨⟨⟨⟨⟨h1, h2⟩, h3⟩, h4⟩, h5⟩, h6⟩ := h
  refine ⟨h1, h2, fun y hy e => (h3 y hy).resolve_left fun z => z e, fun y hy e => ?_, h5, fun j i x e1 e2 => ?_⟩
  · rcases h4 y hy with (z | z) | z
    · exact absurd e z
    · exact .inl z
    · exact .inr z
  · have hm : (some i, x) ∈ fr.zip N := by
      apply List.mem_of_getElem? (i := j)
      rw [List.getElem?_zip_eq_some]
      exact ⟨e1, e2⟩
    have := h6 _ hm
    simpa using this
def tComp (fr : List (Option Nat)) (wi : TI) (g : TG) (tt : TT) (te : TE) : TE := fun σ H Q => wi σ H fun J H1 =>
  ∃ W : Nat → Nat → List V → Hp → Prop, (∃ m, W 0 m [] H1) ∧ ∀ i m ys H, W i m ys H → ys.length ≤ sizeLine ∧
    ((J.stop i H ∧ ∀ p, H p = none → Q (.ref p) (upd H p (.lst ys))) ∨
     (J.go i H ∧ ∃ NN : List V → Hp → Prop, (∀ ys' H', NN ys' H' → ∃ m', m' < m ∧ W (i + 1) m' ys' H') ∧ ∀ x H', J.yld i H x H' → g x (grab fr σ) H' fun σ2 H2 => tt σ2 H2 fun b H3 =>
        if b = true then te σ2 H3 fun y H4 => NN (ys ++ [y]) H4 else NN ys H3))
structure BlkEnd (X : Cx) (pins : List (Addr × Obj)) (σ : St) (Q : VK) (C D : Addr) (s' : Shared) : Prop where
  ex : ∃ (ys : List V) (H : Hp), H D = none ∧ (∃ m, s'.heap.Ns C m) ∧ D ≠ C ∧ C ≠ X.env.locals ∧ (∀ x c, X.env.cells.lookup x = some c → c ≠ C) ∧ (∀ p ∈ X.pn ++ pins, p.1 ≠ C) ∧ X.s₀.heap.objs.size ≤ C ∧ C ∉ X.fs ∧
    (upd H D (.lst ys)) C = none ∧
    (∀ h', Heap.SameBut C s'.heap h' → Inv X pins σ (upd H D (.lst ys)) { s' with heap := h' }) ∧ Q (.ref D) (upd H D (.lst ys))
theorem comp_block {X : Cx} {elt iter tg : Expr} {ifs : List Expr} {scope : Scope} {pos : Pos} {N : List Str} {fr : List (Option Nat)} {g : TG} {tt : TT} {te : TE} {cl : List (Str × Addr)}
    (hcalm : X.calm = true) (S : CompScope X scope N fr) (hclS : ∀ x c, cl.lookup x = some c → X.env.cells.lookup x = some c) (hclH : ∀ y ∈ scope.names, y.2 = .free → ∃ c, cl.lookup y.1 = some c)
    (hg : ∀ C s₂ H₂ fp pn, PG (blk X N scope cl C s₂ H₂ fp pn) tg g) (hgo : TgOk fr g) (ht : ∀ C s₂ H₂ fp pn, PTs (blk X N scope cl C s₂ H₂ fp pn) ifs tt) (he : ∀ C s₂ H₂ fp pn, PE (blk X N scope cl C s₂ H₂ fp pn) elt te)
    {pins : List (Addr × Obj)} {s2 : Shared} {σ : St} {H2 : Hp} {Q : VK} {it : Addr} {fp : List Addr} {tn : Nat → Heap → Prop} {J : It} (I2 : Inv X pins σ H2 s2) (T : Turn X.prog X.w X.K tg J fp it tn) (st2 : tn 0 s2.heap) (f2 : ∀ b ∈ fp, FpOk X pins H2 b)
    (W : Nat → Nat → List V → Hp → Prop) (w0 : ∃ m, W 0 m [] H2)
    (turn : ∀ i m ys H, W i m ys H → ys.length ≤ sizeLine ∧
    ((J.stop i H ∧ ∀ p, H p = none → Q (.ref p) (upd H p (.lst ys))) ∨
     (J.go i H ∧ ∃ NN : List V → Hp → Prop, (∀ ys' H', NN ys' H' → ∃ m', m' < m ∧ W (i + 1) m' ys' H') ∧ ∀ x H', J.yld i H x H' → g x (grab fr σ) H' fun σ2 H2 => tt σ2 H2 fun b H3 =>
        if b = true then te σ2 H3 fun y H4 => NN (ys ++ [y]) H4 else NN ys H3)))
    {E : Value → Shared → Prop} {RR : Value → Addr → Result → Shared → Prop} (hRR : ∀ C D s', BlkEnd X pins σ Q C D s' → RR (.ref D) C (.ok .next) s') :
    wpAny (model X.prog X.w) X.A (newList []) (fun acc s₃ => wpAny (model X.prog X.w) X.A (newFunctionEnv scope X.env.globals cl [] X.env.qual none .none (some X.env)) (fun cenv s₄ =>
      codeAny (model X.prog X.w) X.A (.compStart (.ListComp elt [⟨tg, iter, ifs, 0⟩] scope pos) 0 (.ref it) acc { cenv with scope := relabel scope X.env }) (RR acc cenv.locals) s₄) E s₃) E s2 := by
  obtain ⟨m0, w0⟩ := w0
  refine wpAny_newObj_type (wpAny_newFunctionEnv S.nocell (by intro y hy; simp at hy) (fun h₁ hns₁ hsb₁ => ?_) S.kind)
  dsimp only at hns₁ hsb₁ ⊢
  generalize hHH : s2.heap.push { cls := .type "list", dict := none, data := .seq ([] : List Value).toArray } = HH at hns₁ hsb₁ ⊢
  have hC : HH.objs.size = s2.heap.objs.size + 1 := by rw [← hHH, Heap.size_push]
  generalize hDD : s2.heap.objs.size = D at *
  generalize hCC : HH.objs.size = C at *
  have hDlt : Nat.lt D C := by show D < C; rw [hC]; exact Nat.lt_succ_self _
  have hDC : D ≠ C := Nat.ne_of_lt hDlt
  have neD : ∀ {b : Addr}, Nat.lt b D → b ≠ D := fun h => Nat.ne_of_lt h
  have neC : ∀ {b : Addr}, Nat.lt b D → b ≠ C := fun h => Nat.ne_of_lt (Nat.lt_trans h hDlt)
  have below : ∀ (b : Addr) (o : Obj), s2.heap.get? b = some o → Nat.lt b D := fun b o e => by rw [← hDD]; exact Heap.lt_size e
  have old : ∀ b o, s2.heap.get? b = some o → h₁.get? b = some o := fun b o e => hsb₁.extBut b o (neC (below b o e)) (Heap.get?_push_of_some _ (hHH ▸ Heap.get?_push_of_some _ e))
  have hacc : h₁.get? D = some { cls := .type "list", data := .seq ([] : List Value).toArray } := hsb₁.extBut _ _ hDC (Heap.get?_push_of_some _ (by rw [← hHH, ← hDD]; exact Heap.get?_push_size _ rfl))
  have Lt : Nat.lt X.env.locals D := by rw [← hDD]; exact I2.lt
  have cellLt : ∀ x c, X.env.cells.lookup x = some c → Nat.lt c D := fun x c e => by
    obtain ⟨v, q⟩ := I2.cell x c e
    rw [← hDD]; exact q.lt
  have pinLt : ∀ p ∈ X.pn ++ pins, Nat.lt p.1 D := fun p hp => below p.1 p.2 (I2.pin p hp).1
  have freshH : ∀ b : Addr, Nat.le D b → H2 b = none := fun b hb => I2.hok.fresh (by rw [hDD]; exact hb)
  let X' : Cx := blk X N scope cl C s2 H2 fp (X.pn ++ pins)
  have okX : X'.Ok := by
    refine ⟨I2.ok.mod, S.kind, I2.ok.glob, I2.ok.blt, by show s2.heap.objs.size ≤ C; rw [hDD]; exact Nat.le_of_lt hDlt, fun x y c e1 e2 => I2.ok.inj x y c (hclS _ _ e1) (hclS _ _ e2), fun x hx => ?_, fun x c hf _ => (by cases hf), I2.ok.hd, I2.ok.frames, .inl rfl, fun b hb => ⟨?_, fun x c e => (f2 b hb).2.2.2.2.1 x c (hclS _ _ e)⟩, I2.bs, Nat.le_trans I2.ok.bsz I2.sz, fun b o e hb => ?_, fun b hb hm => ?_, I2.stack, I2.stkFree⟩
    · have hx : (relabel scope X.env).names.lookup x = some .cell ∨ (relabel scope X.env).names.lookup x = some .free := hx
      have hf : scope.names.lookup x = some .free := by
        rcases hx with hx | hx
        · rcases lookup_relabel_back hx with h | ⟨_, h⟩
          · exact absurd rfl (S.nocell _ (PySem.mem_of_lookup h))
          · exact h
        · rcases lookup_relabel_back hx with h | ⟨h, _⟩
          · exact h
          · cases h
      exact hclH _ (PySem.mem_of_lookup hf) rfl
    · obtain ⟨o, e, _⟩ := T.obj 0 _ st2 b hb
      exact neC (below b o e)
    · obtain ⟨_, _, _, h, _⟩ := f2 b hb
      rcases h with h | h
      · exact I2.ok.noex b o e h
      · have := Heap.lt_size (I2.ok.bs b o e).1
        exact absurd (Nat.lt_of_lt_of_le this h) (Nat.lt_irrefl _)
    · rcases List.mem_cons.mp (I2.stkSub b hm) with h | h
      · exact (f2 b hb).2.1 h
      · exact (f2 b hb).2.2.1 h
  have I4 : ∀ tk, 0 < tk → Inv X' [(D, { cls := .type "list", data := .seq ([] : List Value).toArray })] (grab fr σ) H2 { s2 with heap := h₁, toks := tk } := fun tk htk => by
    refine ⟨okX, rfl, I2.bare, Un.kept old, ⟨_, hns₁, fun j x v e1 e2 e3 => ?_⟩, fun x c e => ?_, freshH C (Nat.le_of_lt hDlt), fun x c e => I2.freeC x c (hclS _ _ e), fun p hp => ?_, I2.hok.kept old, ?_, htk⟩
    · obtain ⟨i, q1, q2⟩ := grab_get e2
      obtain ⟨a1, a2⟩ := S.at_ j i x q1 e1
      obtain ⟨m, hn, hl⟩ := I2.loc
      have vis : Vis X.env.scope x := by
        rcases S.free _ (PySem.mem_of_lookup a2) rfl with h | h
        · exact .inr (.inl h)
        · exact .inr (.inr h)
      obtain ⟨u, r, l⟩ := hl i x v a1 q2 vis
      refine ⟨u, r, .inr ⟨?_, ?_⟩⟩
      · exact lookup_relabel_free (env := X.env) a2
      · rcases l with ⟨hk, _⟩ | ⟨_, c, hc, hcell⟩
        · have hk : X.env.scope.names.lookup x = some .local := hk
          rcases S.free _ (PySem.mem_of_lookup a2) rfl with h | h
          · have h : X.env.scope.names.lookup x = some .cell := h
            rw [hk] at h; cases h
          · have h : X.env.scope.names.lookup x = some .free := h
            rw [hk] at h; cases h
        · obtain ⟨c', hc'⟩ := hclH _ (PySem.mem_of_lookup a2) rfl
          have : c = c' := by
            have := hclS _ _ hc'
            rw [hc] at this
            exact Option.some.inj this
          subst this
          obtain ⟨o, ho, hd⟩ := hcell
          exact ⟨c, hc', o, old c o ho, hd⟩
    · obtain ⟨v, o, ho, hd⟩ := I2.cell x c (hclS _ _ e)
      exact ⟨v, o, old c o ho, hd⟩
    · rcases List.mem_append.mp hp with hp | hp
      · obtain ⟨e, n, ne, nf, d⟩ := I2.pin p hp
        refine ⟨old _ _ e, n, ?_, fun hm => ?_, d⟩
        · exact neC (pinLt p hp)
        · rcases List.mem_cons.mp (I2.stkSub _ hm) with h | h
          · exact ne h
          · exact nf h
      · have hp : p = (D, { cls := .type "list", data := .seq ([] : List Value).toArray }) := by simpa using hp
        subst hp
        refine ⟨hacc, freshH D (Nat.le_refl _), hDC, fun hm => ?_, fun v z => by cases z⟩
        rcases List.mem_cons.mp (I2.stkSub _ hm) with h | h
        · exact neD Lt h.symm
        · exact I2.nofs (by rw [hDD]; exact Nat.le_refl _) h
    · show (grab fr σ).length = N.length
      unfold grab
      rw [List.length_map, S.len]
  have fpLt : ∀ b ∈ fp, Nat.lt b D := fun b hb => by
    obtain ⟨o, e, _⟩ := T.obj 0 _ st2 b hb
    exact below b o e
  have fpk : ∀ {H : Hp} {oD : Obj}, (∀ b ∈ fp, H b = none) → ∀ b ∈ fp, FpOk X' [(D, oD)] H b := fun {H oD} hn b hb => by
    refine ⟨hn b hb, ?_, fun hm => ?_, .inl hb, fun x c e => (f2 b hb).2.2.2.2.1 x c (hclS _ _ e), fun p hp => ?_⟩
    · exact neC (fpLt b hb)
    · rcases List.mem_cons.mp (I2.stkSub b hm) with h | h
      · exact (f2 b hb).2.1 h
      · exact (f2 b hb).2.2.1 h
    · rcases List.mem_append.mp hp with hp | hp
      · exact (f2 b hb).2.2.2.2.2 p hp
      · have hp : p = (D, oD) := by simpa using hp
        subst hp
        exact (neD (fpLt b hb)).symm
  have loop : ∀ s₃ : Shared, s₃ = { s2 with heap := h₁, toks := s2.toks + ([] : List (Str × Value)).length } →
      codeAny (model X.prog X.w) X.A (.compLoop (.ListComp elt [⟨tg, iter, ifs, 0⟩] scope pos) 0 (.ref it) (.ref D) (compEnvC scope cl C X.env)) (RR (.ref D) C) s₃ := by
    rintro s₃ rfl
    refine codeAny_compLoop_gen (fun n s' => ∃ i ys its k H', Inv X' [(D, ({ cls := .type "list", data := .seq its k } : Obj))] (grab fr σ) H' s' ∧ tn i s'.heap ∧ (∀ b ∈ fp, H' b = none) ∧ Vals ys its.toList ∧ W i n ys H') ?_ m0
      ⟨0, [], #[], _, H2, I4 _ (by first | exact I2.tk | exact Nat.succ_pos _), T.keep 0 _ _ st2 (fun b _ o e => old b o e), fun b hb => (f2 b hb).1, .nil, w0⟩
    rintro n s3 ⟨i, ys, its, k, H3, I3, st3, fr3, vy, w3⟩
    obtain ⟨hsz, h⟩ := turn i n ys H3 w3
    rcases h with ⟨stop, qn⟩ | ⟨go, NN, hNN, step⟩
    · refine noE (thn (T.done X' rfl rfl rfl hcalm i [(D, _)] s3 (grab fr σ) H3 _ I3 (fpk fr3) st3 stop) fun r s4 ⟨hr, I4⟩ => ?_)
      subst hr
      refine hRR C D s4 ⟨ys, H3, ?_⟩
      obtain ⟨pD, nD, _, _, _⟩ := I4.pin (D, _) (List.mem_append_right _ (List.mem_singleton.mpr rfl))
      have pD : s4.heap.get? D = some { cls := .type "list", data := .seq its k } := pD
      have nD : H3 D = none := nD
      have nC : H3 C = none := I4.free
      obtain ⟨mC, hnC, _⟩ := I4.loc
      refine ⟨nD, ⟨mC, hnC⟩, hDC, (neC Lt).symm, fun x c e z => ?_, fun p hp z => ?_, ?_, fun hm => ?_, ?_, fun h' hsb => ?_, qn D nD⟩
      · exact neC (cellLt x c e) z
      · exact neC (pinLt p hp) z
      · have := I2.sz; rw [hDD] at this; exact Nat.le_trans this (Nat.le_of_lt hDlt)
      · exact I2.nofs (by rw [hDD]; exact Nat.le_of_lt hDlt) hm
      · rw [upd_ne (Ne.symm hDC)]; exact nC
      · have un : Un (frs X.stack) fp H2 (upd H3 D (.lst ys)) s2.heap h' := by
          have u := I4.base
          have neC : ∀ (b : Addr) (o : Obj), s2.heap.get? b = some o → b ≠ C := fun b o e => neC (below b o e)
          have neD : ∀ (b : Addr) (o : Obj), s2.heap.get? b = some o → b ≠ D := fun b o e => neD (below b o e)
          have trkNe : ∀ b (o : HO), H3 b = some o → b ≠ D := fun b o e z => by rw [z, nD] at e; cases e
          refine ⟨fun b o e n hb hx => hsb.extBut b o (neC b o e) (u.keep b o e n hb hx), fun b o e n hb hx => ?_, fun b o e n hx => by rw [upd_ne (neD b o e)]; exact u.free b o e n hx, fun b o e hx => ?_, fun b xs e => ?_, fun b o xs e => ?_, fun b ps e => ?_⟩
          · obtain ⟨sl, q⟩ := u.slot b o e n hb hx
            exact ⟨sl, hsb.extBut b _ (neC b o e) q⟩
          · obtain ⟨o', q⟩ := u.there b o e hx
            exact ⟨o', hsb.extBut b _ (neC b o e) q⟩
          · have q := u.tups b xs e
            rw [upd_ne (trkNe b _ q)]; exact q
          · have q := u.frzs b o xs e
            rw [upd_ne (trkNe b _ q)]; exact q
          · obtain ⟨more, q⟩ := u.tbls b ps e
            exact ⟨more, by rw [upd_ne (trkNe b _ q)]; exact q⟩
        have hok : HOk X.prog X.w (upd H3 D (.lst ys)) h' := fun b u e => by
          by_cases hb : b = D
          · rw [hb, upd_same] at e
            cases e
            rw [hb]
            exact ⟨hsz, its.toList, k, vy, by simpa using hsb.extBut D _ hDC pD⟩
          · rw [upd_ne hb] at e
            refine (I4.hok b u e).stay (fun c v hc q => hsb.extBut c v ?_ q) (fun c q => ?_) fun c xs q => ?_
            · rcases hc with rfl | hc
              · rintro rfl; rw [nC] at e; cases e
              · rintro rfl; rw [nC] at hc; cases hc
            · rw [upd_ne (ne_of_none q nD)]; exact q
            · rw [upd_ne (ne_of_none q nD)]; exact q
        obtain ⟨hh, gg, dd, tt', os'⟩ := s4
        obtain rfl : os' = s2.os := I4.os
        refine (show Inv X pins σ (upd H3 D (.lst ys)) { s2 with heap := h', gens := gg, drawn := dd, toks := tt' } from I2.call (h' := h') (g' := gg) (d' := dd) (t' := tt') (ch := fp) un hok I4.bare fun b hb => ?_)
        obtain ⟨_, f1, _, f3, f4, f5⟩ := f2 b hb
        exact ⟨f3, f1, f4, f5⟩
    · refine noE (thn (T.item X' rfl rfl rfl hcalm i [(D, _)] s3 (grab fr σ) H3 _ I3 (fpk fr3) st3 go) fun r s4 ⟨u, hr, h4⟩ => ?_)
      subst hr
      refine noE (thn h4 fun _ s5 ⟨x, H5, I5, r5, y5, st5, fr5⟩ => ?_)
      have I5' := I5.pinned (fpk fr5) (T.obj _ _ st5)
      refine noE (thn (hg C s2 H2 fp (X.pn ++ pins) _ s5 (grab fr σ) H5 x u _ I5' r5 (hgo _ _ _ _ (step x H5 y5))) fun _ s6 ⟨σ6, H6, I6, q6, k6⟩ => ?_)
      refine noE (thn (ht C s2 H2 fp (X.pn ++ pins) _ s6 σ6 H6 _ I6 q6) fun b s7 ⟨H7, I7, q7⟩ => ?_)
      have back : ∀ {s8 : Shared} {H8 : Hp}, Inv X' ([(D, ({ cls := .type "list", data := .seq its k } : Obj))] ++ pinsAt fp s5.heap) σ6 H8 s8 → Inv X' [(D, ({ cls := .type "list", data := .seq its k } : Obj))] (grab fr σ) H8 s8 ∧ tn (i + 1) s8.heap ∧ ∀ b ∈ fp, H8 b = none := fun {s8 H8} I8 => by
        refine ⟨(I8.unpinned).weak ?_ fun j v e => ?_, T.keep _ _ _ st5 fun b hb o e => (I8.pin (b, o) (List.mem_append_right _ (List.mem_append_right _ (mem_pinsAt hb e)))).1, fun b hb => ?_⟩
        · rw [I8.len]; show (grab fr σ).length = N.length; unfold grab; rw [List.length_map, S.len]
        · obtain ⟨i', q1, _⟩ := grab_get e
          rw [k6 j i' q1]; exact e
        · obtain ⟨o, e, d⟩ := T.obj _ _ st5 b hb
          exact (I8.pin (b, o) (List.mem_append_right _ (List.mem_append_right _ (mem_pinsAt hb e)))).2.1
      cases b with
      | false =>
        rw [if_neg Bool.false_ne_true] at q7 ⊢
        obtain ⟨m', hm, w7⟩ := hNN _ _ q7
        obtain ⟨J1, J2, J3⟩ := back I7
        exact ⟨m', hm, i + 1, ys, its, k, H7, J1, J2, J3, vy, w7⟩
      | true =>
        rw [if_pos rfl] at q7 ⊢
        refine noE (thn (he C s2 H2 fp (X.pn ++ pins) _ s7 σ6 H7 _ I7 q7) fun y s8 ⟨yv, H8, I8, r8, n8⟩ => ?_)
        obtain ⟨m', hm, w8⟩ := hNN _ _ n8
        obtain ⟨J1, J2, J3⟩ := back I8
        obtain ⟨pD, nD, _, _, _⟩ := J1.pin (D, _) (List.mem_append_right _ (List.mem_singleton.mpr rfl))
        have pD : s8.heap.get? D = some { cls := .type "list", data := .seq its k } := pD
        have nD : H8 D = none := nD
        have hz' : its.size ≤ sizeLine := by
          have e1 : its.size = ys.length := by rw [vy.length]; simp
          rw [e1]; exact hsz
        refine wpAny_list_append_plain (hsz := hz') ⟨k, pD⟩ fun h' ⟨k', hl'⟩ hsb => ?_
        · refine ⟨m', hm, i + 1, ys ++ [yv], its.push y, k', H8, ?_, T.keep _ _ _ J2 fun b hb o e => ?_, J3, ?_, w8⟩
          · have K0 : Inv X' [] (grab fr σ) H8 s8 := J1.pins_of fun p hp => by cases hp
            have K1 : Inv X' [] (grab fr σ) H8 { s8 with heap := h' } := by
              refine K0.turned (it := D) (t' := s8.toks) (fun b o hb e => hsb.extBut b o hb e) nD hDC (.inr (by show s2.heap.objs.size ≤ D; rw [hDD]; exact Nat.le_refl _)) (fun x c e z => ?_) fun p hp z => ?_
              · exact neD (cellLt x c (hclS _ _ e)) z
              · have hp : p ∈ X.pn ++ pins := by
                  rcases List.mem_append.mp hp with hp | hp
                  · exact hp
                  · cases hp
                exact neD (pinLt p hp) z
            refine K1.pins_of fun p hp => ?_
            have hp : p = (D, ({ cls := .type "list", data := .seq (its.push y) k' } : Obj)) := by simpa using hp
            subst hp
            refine ⟨hl', nD, hDC, fun hm => ?_, fun v z => by cases z⟩
            rcases List.mem_cons.mp (I2.stkSub _ hm) with h | h
            · exact neD Lt h.symm
            · exact I2.nofs (by rw [hDD]; exact Nat.le_refl _) h
          · exact hsb.extBut b o (neD (fpLt b hb)) e
          · rw [Array.toList_push]
            exact Vals.append vy (.cons r8 .nil)
  exact codeAny_compStart_list (loop _ rfl) (T.self _ 0 _ _ _ (T.keep 0 _ _ st2 fun b _ o e => old b o e) (loop _ rfl))
theorem pe_comp {X : Cx} {elt iter tg : Expr} {ifs : List Expr} {scope : Scope} {pos : Pos} {N : List Str} {fr : List (Option Nat)} {wi : TI} {g : TG} {tt : TT} {te : TE}
    (hcalm : X.calm = true) (S : CompScope X scope N fr) (hi : PI X tg iter wi)
    (hg : ∀ cl C s₂ H₂ fp pn, PG (blk X N scope cl C s₂ H₂ fp pn) tg g) (hgo : TgOk fr g) (ht : ∀ cl C s₂ H₂ fp pn, PTs (blk X N scope cl C s₂ H₂ fp pn) ifs tt) (he : ∀ cl C s₂ H₂ fp pn, PE (blk X N scope cl C s₂ H₂ fp pn) elt te)
    (hs : ∀ x, foldedSetIterable iter X.env x = pure x := by intro _; rfl) : PE X (.ListComp elt [⟨tg, iter, ifs, 0⟩] scope pos) (tComp fr wi g tt te) := by
  intro pins s σ H Q I h
  obtain ⟨cl, hclos, hclS, hclH⟩ := closureFor_ex (env := X.env) (scope := scope) fun y hy hf => I.ok.has y.1 (S.free y hy hf)
  rw [eval_ListComp]
  refine wpAny_comprehension_free (use := none) rfl hs hclos S.kind S.names (thn (hi pins s σ H _ I h) fun v s1 h1 => thn h1 fun itv s2 h2 => ?_)
  obtain ⟨it, fp, tn, J, H2, e, I2, T, st2, f2, W, w0, turn⟩ := h2
  subst e
  refine comp_block (RR := fun acc C => compPost (model X.prog X.w) X.A X.xe none (EP X pins σ Q) acc C) hcalm S hclS hclH (hg cl) hgo (ht cl) (he cl) I2 T st2 f2 W w0 turn fun C D s' B => ?_
  obtain ⟨ys, H', nD, hC, _, _, _, _, _, _, _, hI, q⟩ := B.ex
  obtain ⟨m, hn⟩ := hC
  exact ⟨m, hn, fun h' hs' => ⟨.ref D, _, hI h' hs', rfl, q⟩⟩
theorem ps_setC {X : Cx} {elt iter tg : Expr} {ifs : List Expr} {scope : Scope} {pos spos py : Pos} {N : List Str} {fr : List (Option Nat)} {wi : TI} {g : TG} {tt : TT} {te : TE} {i : Nat} {y : Str}
    (hN : X.N.Nodup) (hy : X.N[i]? = some y) (hly : X.env.scope.names.lookup y = some .local)
    (hcalm : X.calm = true) (S : CompScope X scope N fr) (hi : PI X tg iter wi)
    (hg : ∀ cl C s₂ H₂ fp pn, PG (blk X N scope cl C s₂ H₂ fp pn) tg g) (hgo : TgOk fr g) (ht : ∀ cl C s₂ H₂ fp pn, PTs (blk X N scope cl C s₂ H₂ fp pn) ifs tt) (he : ∀ cl C s₂ H₂ fp pn, PE (blk X N scope cl C s₂ H₂ fp pn) elt te)
    (hsw : swapsWith (.ListComp elt [⟨tg, iter, ifs, 0⟩] scope pos) (some (.Name y py)) spos.line X.env = pure true := by rfl)
    (hs : ∀ x, foldedSetIterable iter X.env x = pure x := by intro _; rfl) : PS X (.Assign [.Name y py] (.ListComp elt [⟨tg, iter, ifs, 0⟩] scope pos) spos) (tAsg (tComp fr wi g tt te) (gName i)) := by
  intro pins s σ H D I h
  obtain ⟨cl, hclos, hclS, hclH⟩ := closureFor_ex (env := X.env) (scope := scope) fun y hy hf => I.ok.has y.1 (S.free y hy hf)
  rw [exec_Assign_Name_used _ _ _ _ hsw]
  refine wpAny_bind (wpAny_standAt (wpAny_bind ?_))
  show wpAny _ X.A (do let _ ← comprehension (.ListComp elt [⟨tg, iter, ifs, 0⟩] scope pos) scope X.env _ (newList []) false (eval iter X.env) (some (assign (.Name y py) X.env))) _ _ s
  refine wpAny_bind (wpAny_mono (wpAny_comprehension_free (use := some (assign (.Name y py) X.env)) (Q := fun _ s' => SP X pins D .next s') rfl hs hclos S.kind S.names
    (thn (hi pins s σ H _ I h) fun v s1 h1 => thn h1 fun itv s2 h2 => ?_)) (fun _ s' hq => wpAny_pure (wpAny_pure hq)) fun _ _ e => e)
  obtain ⟨it, fp, tn, J, H2, e, I2, T, st2, f2, W, w0, turn⟩ := h2
  subst e
  refine comp_block (Q := fun x H1 => gName i x σ H1 D.nx) (RR := fun acc C => compPost (model X.prog X.w) X.A X.xe (some (assign (.Name y py) X.env)) (fun _ s' => SP X pins D .next s') acc C) hcalm S hclS hclH (hg cl) hgo (ht cl) (he cl) I2 T st2 f2 W w0 turn fun C D' s' B => ?_
  obtain ⟨ys, H', nD, hC, hDC, hCL, hCc, hCp, hCs, hCf, hCn, hI, q⟩ := B.ex
  obtain ⟨m, hn⟩ := hC
  have I1 : Inv X pins σ (upd H' D' (.lst ys)) s' := by
    have := hI s'.heap (.refl ..)
    obtain ⟨hh, gg, dd, tt', os'⟩ := s'
    exact this
  show wpAny _ X.A (assign (.Name y py) X.env (.ref D')) _ _ _
  refine wpAny_assign_Name (store_ok2 I1 hN hy (.inl hly) (v := .ref D') rfl (fun s2 I3 ⟨a, sb, ha⟩ => ?_) (.inr hly))
  have hCa : C ≠ a := by
    rcases ha with rfl | ha
    · exact hCL
    · exact fun z => hCc y a ha z.symm
  refine ⟨m, hn.sameBut sb hCa, fun h3 hs3 => ?_⟩
  exact ⟨_, _, I3.turned (it := C) (t' := s2.toks) (fun b o hb e => hs3.extBut b o hb e) hCn hCL (.inr hCs) hCc hCp, q⟩
end L2
namespace L2
open PySem PySem.Spec PyProof.Rows
mutual
def Dv (K : PySem.W.Frag) (H : Hp) : PyData → V → Prop
  | .none, v => v = .non
  | .bool b, v => v = .bl b
  | .int i, v => v = .int i
  | .str x, v => v = .str x
  | .list ds, v => ∃ a vs, v = .ref a ∧ SqL K H a vs ∧ Dvs K H ds vs
  | .tuple ds, v => ∃ a vs, v = .ref a ∧ SqT K H a vs ∧ Dvs K H ds vs
  | .dict _, _ => False
def Dvs (K : PySem.W.Frag) (H : Hp) : List PyData → List V → Prop
  | [], vs => vs = []
  | d :: ds, vs => ∃ v r, vs = v :: r ∧ Dv K H d v ∧ Dvs K H ds r
end
section
variable {K : PySem.W.Frag} {H H' : Hp}
theorem Dvs.length : ∀ {ds : List PyData} {vs : List V}, Dvs K H ds vs → vs.length = ds.length
  | [], _, h => by rw [Dvs] at h; subst h; rfl
  | d :: ds, _, h => by
    rw [Dvs] at h
    obtain ⟨v, r, rfl, _, h⟩ := h
    rw [List.length_cons, List.length_cons, Dvs.length h]
theorem Dvs.get : ∀ {ds : List PyData} {vs : List V} {i : Nat} {d : PyData}, Dvs K H ds vs → ds[i]? = some d → ∃ v, vs[i]? = some v ∧ Dv K H d v
  | [], _, _, _, _, e => by simp at e
  | d :: ds, _, 0, _, h, e => by
    rw [Dvs] at h
    obtain ⟨v, r, rfl, h, _⟩ := h
    cases e
    exact ⟨v, rfl, h⟩
  | d :: ds, _, i + 1, _, h, e => by
    rw [Dvs] at h
    obtain ⟨v, r, rfl, _, h⟩ := h
    exact Dvs.get (i := i) h (by simpa using e)
theorem Dvs.get' : ∀ {ds : List PyData} {vs : List V} {i : Nat} {v : V}, Dvs K H ds vs → vs[i]? = some v → ∃ d, ds[i]? = some d ∧ Dv K H d v
  | [], _, _, _, h, e => by rw [Dvs] at h; subst h; simp at e
  | d :: ds, _, 0, _, h, e => by
    rw [Dvs] at h
    obtain ⟨v, r, rfl, h, _⟩ := h
    cases e
    exact ⟨d, rfl, h⟩
  | d :: ds, _, i + 1, _, h, e => by
    rw [Dvs] at h
    obtain ⟨v, r, rfl, _, h⟩ := h
    exact Dvs.get' (i := i) h (by simpa using e)
theorem Dvs.append : ∀ {ds es : List PyData} {vs ws : List V}, Dvs K H ds vs → Dvs K H es ws → Dvs K H (ds ++ es) (vs ++ ws)
  | [], _, _, _, h, g => by rw [Dvs] at h; subst h; exact g
  | d :: ds, es, _, _, h, g => by
    rw [Dvs] at h
    obtain ⟨v, r, rfl, h1, h⟩ := h
    show Dvs K H (d :: (ds ++ es)) _
    rw [Dvs]
    exact ⟨v, r ++ _, rfl, h1, Dvs.append h g⟩
theorem dvs_nil : Dvs K H [] [] := by rw [Dvs]
theorem dvs_cons {d : PyData} {ds : List PyData} {v : V} {vs : List V} (h : Dv K H d v) (t : Dvs K H ds vs) : Dvs K H (d :: ds) (v :: vs) := by rw [Dvs]; exact ⟨v, vs, rfl, h, t⟩
theorem dv_none {v : V} : Dv K H .none v ↔ v = .non := by rw [Dv]
theorem dv_bool {b : Bool} {v : V} : Dv K H (.bool b) v ↔ v = .bl b := by rw [Dv]
theorem dv_int {i : Int} {v : V} : Dv K H (.int i) v ↔ v = .int i := by rw [Dv]
theorem dv_str {x : Str} {v : V} : Dv K H (.str x) v ↔ v = .str x := by rw [Dv]
theorem dv_list {ds : List PyData} {v : V} : Dv K H (.list ds) v ↔ ∃ a vs, v = .ref a ∧ SqL K H a vs ∧ Dvs K H ds vs := by rw [Dv]
theorem dv_tuple {ds : List PyData} {v : V} : Dv K H (.tuple ds) v ↔ ∃ a vs, v = .ref a ∧ SqT K H a vs ∧ Dvs K H ds vs := by rw [Dv]
def sDa (xs : List Str) : List PyData := xs.map .str
def strV (xs : List Str) : List V := xs.map .str
theorem dvs_sDa : ∀ {xs : List Str} {vs : List V}, Dvs K H (sDa xs) vs ↔ vs = strV xs
  | [], _ => by show Dvs K H [] _ ↔ _ = []; rw [Dvs]
  | x :: xs, vs => by
    show Dvs K H (.str x :: sDa xs) vs ↔ vs = V.str x :: strV xs
    rw [Dvs]
    constructor
    · rintro ⟨v, r, rfl, h1, h2⟩
      rw [dv_str.mp h1, dvs_sDa.mp h2]
    · rintro rfl
      exact ⟨_, _, rfl, dv_str.mpr rfl, dvs_sDa.mpr rfl⟩
end
def TupK (H H' : Hp) : Prop := (∀ b xs, H b = some (.tup xs) → H' b = some (.tup xs)) ∧ ∀ b o xs, H b = some (.frz o (.tup xs)) → H' b = some (.frz o (.tup xs))
theorem Same.tupK {H H' : Hp} (h : Same H H') : TupK H H' := ⟨fun b xs e => h b _ e, fun b o xs e => h b _ e⟩
theorem TupK.trans {H H1 H2 : Hp} (a : TupK H H1) (b : TupK H1 H2) : TupK H H2 := ⟨fun c xs e => b.1 c xs (a.1 c xs e), fun c o xs e => b.2 c o xs (a.2 c o xs e)⟩
theorem TupK.sqT {K : PySem.W.Frag} {H H' : Hp} {a : Addr} {xs : List V} (e : TupK H H') (h : SqT K H a xs) : SqT K H' a xs := by
  rcases h with (h | ⟨o, h⟩) | h
  · exact .inl (.inl (e.1 _ _ h))
  · exact .inl (.inr ⟨o, e.2 _ _ _ h⟩)
  · exact .inr h
theorem Same.sqT {K : PySem.W.Frag} {H H' : Hp} {a : Addr} {xs : List V} (e : Same H H') (h : SqT K H a xs) : SqT K H' a xs := e.tupK.sqT h
theorem Same.sqL {K : PySem.W.Frag} {H H' : Hp} {a : Addr} {xs : List V} (e : Same H H') (h : SqL K H a xs) : SqL K H' a xs := e.seq h
theorem Same.new {H : Hp} {p : Addr} (h : H p = none) (o : HO) : Same H (upd H p o) := fun b u q => by rw [upd_ne (ne_of_none q h)]; exact q
def But (ps : List Addr) (H H' : Hp) : Prop := ∀ b o, H b = some o → b ∉ ps → H' b = some o
theorem But.refl (ps : List Addr) (H : Hp) : But ps H H := fun _ _ e _ => e
theorem But.upd {ps : List Addr} {H : Hp} {p : Addr} (h : p ∈ ps) (o : HO) : But ps H (upd H p o) := fun b u q n => by rw [upd_ne (by rintro rfl; exact n h)]; exact q
theorem But.mono {ps qs : List Addr} {H H' : Hp} (a : But ps H H') (h : ∀ b ∈ ps, b ∈ qs) : But qs H H' := fun c o e n => a c o e fun z => n (h c z)
mutual
/-- data without lists -/
def fix : PyData → Bool
  | .none => true | .bool _ => true | .int _ => true | .str _ => true
  | .list _ => false
  | .tuple ds => fixs ds
  | .dict _ => false
def fixs : List PyData → Bool
  | [] => true
  | d :: ds => fix d && fixs ds
end
mutual
theorem Dv.tupK {K : PySem.W.Frag} {H H' : Hp} (k : TupK H H') : ∀ (d : PyData) (v : V), fix d = true → Dv K H d v → Dv K H' d v
  | .none, _, _, h => dv_none.mpr (dv_none.mp h)
  | .bool _, _, _, h => dv_bool.mpr (dv_bool.mp h)
  | .int _, _, _, h => dv_int.mpr (dv_int.mp h)
  | .str _, _, _, h => dv_str.mpr (dv_str.mp h)
  | .list _, _, f, _ => by rw [fix] at f; cases f
  | .tuple ds, v, f, h => by
    rw [fix] at f
    obtain ⟨a, vs, rfl, hq, h⟩ := dv_tuple.mp h
    exact dv_tuple.mpr ⟨a, vs, rfl, k.sqT hq, Dvs.tupK k ds vs f h⟩
  | .dict _, _, f, _ => by rw [fix] at f; cases f
theorem Dvs.tupK {K : PySem.W.Frag} {H H' : Hp} (k : TupK H H') : ∀ (ds : List PyData) (vs : List V), fixs ds = true → Dvs K H ds vs → Dvs K H' ds vs
  | [], _, _, h => by rw [Dvs] at h ⊢; exact h
  | d :: ds, vs, f, h => by
    rw [fixs, Bool.and_eq_true] at f
    rw [Dvs] at h ⊢
    obtain ⟨v, r, e, h1, h2⟩ := h
    exact ⟨v, r, e, Dv.tupK k d v f.1 h1, Dvs.tupK k ds r f.2 h2⟩
end
mutual
theorem Dv.same {K : PySem.W.Frag} {H H' : Hp} (k : Same H H') : ∀ (d : PyData) (v : V), Dv K H d v → Dv K H' d v
  | .none, _, h => dv_none.mpr (dv_none.mp h)
  | .bool _, _, h => dv_bool.mpr (dv_bool.mp h)
  | .int _, _, h => dv_int.mpr (dv_int.mp h)
  | .str _, _, h => dv_str.mpr (dv_str.mp h)
  | .list ds, v, h => by
    obtain ⟨a, vs, rfl, hq, h⟩ := dv_list.mp h
    exact dv_list.mpr ⟨a, vs, rfl, k.sqL hq, Dvs.same k ds vs h⟩
  | .tuple ds, v, h => by
    obtain ⟨a, vs, rfl, hq, h⟩ := dv_tuple.mp h
    exact dv_tuple.mpr ⟨a, vs, rfl, k.sqT hq, Dvs.same k ds vs h⟩
  | .dict _, _, h => by rw [Dv] at h; exact h.elim
theorem Dvs.same {K : PySem.W.Frag} {H H' : Hp} (k : Same H H') : ∀ (ds : List PyData) (vs : List V), Dvs K H ds vs → Dvs K H' ds vs
  | [], _, h => by rw [Dvs] at h ⊢; exact h
  | d :: ds, vs, h => by
    rw [Dvs] at h ⊢
    obtain ⟨v, r, e, h1, h2⟩ := h
    exact ⟨v, r, e, Dv.same k d v h1, Dvs.same k ds r h2⟩
end
mutual
theorem Dv.reads {X : Cx} {pins : List (Addr × Obj)} {σ : St} {H : Hp} {s : Shared} (I : Inv X pins σ H s) : ∀ (d : PyData) (v : V) (u : Value), Dv X.K H d v → RelV v u → ∃ as, Reads s.heap u d as
  | .none, _, _, h, r => by rw [dv_none.mp h] at r; cases r; exact ⟨_, .none⟩
  | .bool b, _, _, h, r => by rw [dv_bool.mp h] at r; cases r; exact ⟨_, .bool b⟩
  | .int i, _, _, h, r => by rw [dv_int.mp h] at r; obtain ⟨t, rfl⟩ := r; exact ⟨_, .int i t⟩
  | .str x, _, _, h, r => by rw [dv_str.mp h] at r; obtain ⟨t, rfl⟩ := r; exact ⟨_, .str x t⟩
  | .list ds, _, _, h, r => by
    obtain ⟨a, vs, rfl, hq, h⟩ := dv_list.mp h
    cases r
    obtain ⟨its, rv, pl, _⟩ := I.list hq
    obtain ⟨o, e, c, n, d⟩ := pl.isList
    obtain ⟨as, ra⟩ := Dvs.reads I ds vs its h rv
    exact ⟨_, .list e c d (by simpa using ra)⟩
  | .tuple ds, _, _, h, r => by
    obtain ⟨a, vs, rfl, hq, h⟩ := dv_tuple.mp h
    cases r
    obtain ⟨its, rv, pl, _⟩ := I.tuple hq
    obtain ⟨o, e, c, n, d⟩ := pl
    obtain ⟨as, ra⟩ := Dvs.reads I ds vs its h rv
    exact ⟨_, .tuple e c d (by simpa using ra)⟩
  | .dict _, _, _, h, _ => by rw [Dv] at h; exact h.elim
theorem Dvs.reads {X : Cx} {pins : List (Addr × Obj)} {σ : St} {H : Hp} {s : Shared} (I : Inv X pins σ H s) : ∀ (ds : List PyData) (vs : List V) (us : List Value), Dvs X.K H ds vs → Vals vs us → ∃ as, ReadsAll s.heap us ds as
  | [], _, _, h, r => by rw [Dvs] at h; subst h; cases r; exact ⟨_, .nil⟩
  | d :: ds, _, _, h, r => by
    rw [Dvs] at h
    obtain ⟨v, r', rfl, h1, h2⟩ := h
    cases r with
    | cons r1 r2 =>
      obtain ⟨as, a1⟩ := Dv.reads I d v _ h1 r1
      obtain ⟨bs, a2⟩ := Dvs.reads I ds r' _ h2 r2
      exact ⟨_, .cons a1 a2⟩
end
end L2
namespace L2
open PySem PySem.Spec PyProof.Rows PySem.SeqAt
mutual
def nd : PyData → Bool
  | .none => true | .bool _ => true | .int _ => true | .str _ => true
  | .list ds => nds ds
  | .tuple ds => nds ds
  | .dict _ => false
def nds : List PyData → Bool
  | [] => true
  | d :: ds => nd d && nds ds
end
mutual
theorem Dv.nd {K : PySem.W.Frag} {H : Hp} : ∀ (d : PyData) (v : V), Dv K H d v → nd d = true
  | .none, _, _ => by rw [L2.nd]
  | .bool _, _, _ => by rw [L2.nd]
  | .int _, _, _ => by rw [L2.nd]
  | .str _, _, _ => by rw [L2.nd]
  | .list ds, _, h => by
    obtain ⟨a, vs, _, _, h⟩ := dv_list.mp h
    rw [L2.nd]; exact Dvs.nd ds vs h
  | .tuple ds, _, h => by
    obtain ⟨a, vs, _, _, h⟩ := dv_tuple.mp h
    rw [L2.nd]; exact Dvs.nd ds vs h
  | .dict _, _, h => by rw [Dv] at h; exact h.elim
theorem Dvs.nd {K : PySem.W.Frag} {H : Hp} : ∀ (ds : List PyData) (vs : List V), Dvs K H ds vs → nds ds = true
  | [], _, _ => by rw [nds]
  | d :: ds, vs, h => by
    rw [Dvs] at h
    obtain ⟨v, r, _, h1, h2⟩ := h
    rw [nds, Dv.nd d v h1, Dvs.nd ds r h2]; rfl
end
mutual
theorem one_read {h : Heap} : ∀ (d d' : PyData) (v : Value) (as as' : List Addr), nd d = true → Reads h v d as → Reads h v d' as' → d = d'
  | .none, _, _, _, _, _, r, q => by cases r; cases q; rfl
  | .bool _, _, _, _, _, _, r, q => by cases r; cases q; rfl
  | .int _, _, _, _, _, _, r, q => by cases r; cases q; rfl
  | .str _, _, _, _, _, _, r, q => by cases r; cases q; rfl
  | .dict _, _, _, _, _, n, _, _ => by rw [L2.nd] at n; cases n
  | .list xs, d', _, _, _, n, r, q => by
    rw [L2.nd] at n
    cases r with
    | list a1 a2 a3 a4 =>
      cases q with
      | list b1 b2 b3 b4 => rw [a1] at b1; cases b1; rw [a3] at b3; cases b3; rw [one_reads xs _ _ _ _ n a4 b4]
      | tuple b1 b2 b3 b4 => rw [a1] at b1; cases b1; rw [a2] at b2; exact absurd b2 (by simp)
      | dict b1 b2 => rw [a1] at b1; cases b1; rw [a2] at b2; exact absurd b2 (by simp)
  | .tuple xs, d', _, _, _, n, r, q => by
    rw [L2.nd] at n
    cases r with
    | tuple a1 a2 a3 a4 =>
      cases q with
      | tuple b1 b2 b3 b4 => rw [a1] at b1; cases b1; rw [a3] at b3; cases b3; rw [one_reads xs _ _ _ _ n a4 b4]
      | list b1 b2 b3 b4 => rw [a1] at b1; cases b1; rw [a2] at b2; exact absurd b2 (by simp)
      | dict b1 b2 => rw [a1] at b1; cases b1; rw [a2] at b2; exact absurd b2 (by simp)
theorem one_reads {h : Heap} : ∀ (xs ys : List PyData) (vs : List Value) (as as' : List Addr), nds xs = true → ReadsAll h vs xs as → ReadsAll h vs ys as' → xs = ys
  | [], _, _, _, _, _, r, q => by cases r; cases q; rfl
  | x :: xs, _, _, _, _, n, r, q => by
    rw [nds, Bool.and_eq_true] at n
    cases r with
    | cons r1 r2 =>
      cases q with
      | cons q1 q2 => rw [one_read x _ _ _ _ n.1 r1 q1, one_reads xs _ _ _ _ n.2 r2 q2]
end
mutual
theorem eqv_self : ∀ d : PyData, nd d = true → PyData.eqv d d = true
  | .none, _ => rfl
  | .bool b, _ => by simp [PyData.eqv]
  | .int i, _ => by simp [PyData.eqv]
  | .str x, _ => by simp [PyData.eqv]
  | .list xs, h => by rw [PyData.eqv]; rw [L2.nd] at h; exact eqvs_self xs h
  | .tuple xs, h => by rw [PyData.eqv]; rw [L2.nd] at h; exact eqvs_self xs h
  | .dict _, h => by rw [L2.nd] at h; cases h
theorem eqvs_self : ∀ xs : List PyData, nds xs = true → PyData.eqvAll xs xs = true
  | [], _ => rfl
  | x :: xs, h => by
    rw [nds, Bool.and_eq_true] at h
    rw [PyData.eqvAll, eqv_self x h.1, eqvs_self xs h.2]; rfl
end
theorem readsAll_len {h : Heap} : ∀ {xs : List PyData} {vs : List Value} {as : List Addr}, ReadsAll h vs xs as → vs.length = xs.length
  | [], _, _, r => by cases r; rfl
  | _ :: xs, _, _, r => by
    cases r with
    | cons _ r' => rw [List.length_cons, List.length_cons, readsAll_len r']
mutual
theorem eqAt_own : ∀ (da db : PyData) (A : Around) (s : Shared) (a b : Value) (as bs : List Addr), Reads s.heap a da as → Reads s.heap b db bs → nd da = true → nd db = true → A.units + min da.depth db.depth < cLine → EqAt A s a b (PyData.eqv da db)
  | .none, db, A, s, _, _, _, _, ra, rb, _, hb, hu => by
    cases ra
    cases rb with
    | none => exact EqAt.same _
    | bool y => exact EqAt.none_bool y
    | int y u => exact EqAt.none_int y u
    | str y u => exact EqAt.none_str y u
    | list k1 k2 k3 k4 => exact EqAt.none_list ⟨_, k1, k2, _, k3⟩ (room_here hu)
    | tuple k1 k2 k3 k4 => exact EqAt.none_tuple ⟨_, k1, k2, _, k3⟩ (room_here hu)
    | dict => rw [L2.nd] at hb; cases hb
  | .bool x, db, A, s, _, _, _, _, ra, rb, _, hb, hu => by
    cases ra
    cases rb with
    | none => exact EqAt.bool_none x
    | bool y => exact EqAt.bool_bool x y
    | int y u => exact EqAt.bool_int x y u
    | str y u => exact EqAt.bool_str x y u
    | list k1 k2 k3 k4 => exact EqAt.bool_list x ⟨_, k1, k2, _, k3⟩ (room_here hu)
    | tuple k1 k2 k3 k4 => exact EqAt.bool_tuple x ⟨_, k1, k2, _, k3⟩ (room_here hu)
    | dict => rw [L2.nd] at hb; cases hb
  | .int x, db, A, s, _, _, _, _, ra, rb, _, hb, hu => by
    cases ra
    cases rb with
    | none => exact EqAt.int_none x _
    | bool y => exact EqAt.int_bool x _ y
    | int y u => exact EqAt.int_int x _ y u
    | str y u => exact EqAt.int_str x _ y u
    | list k1 k2 k3 k4 => exact EqAt.int_list x _ ⟨_, k1, k2, _, k3⟩ (room_here hu)
    | tuple k1 k2 k3 k4 => exact EqAt.int_tuple x _ ⟨_, k1, k2, _, k3⟩ (room_here hu)
    | dict => rw [L2.nd] at hb; cases hb
  | .str x, db, A, s, _, _, _, _, ra, rb, _, hb, hu => by
    cases ra
    cases rb with
    | none => exact EqAt.str_none x _
    | bool y => exact EqAt.str_bool x _ y
    | int y u => exact EqAt.str_int x _ y u
    | str y u => exact EqAt.str_str x _ y u
    | list k1 k2 k3 k4 => exact EqAt.str_list x _ ⟨_, k1, k2, _, k3⟩ (room_here hu)
    | tuple k1 k2 k3 k4 => exact EqAt.str_tuple x _ ⟨_, k1, k2, _, k3⟩ (room_here hu)
    | dict => rw [L2.nd] at hb; cases hb
  | .list xs, db, A, s, _, _, _, _, ra, rb, ha, hb, hu => by
    have ra0 := ra
    have rb0 := rb
    cases ra with
    | @list l o1 vs1 n1 xs as h1 h2 h3 h4 =>
      cases rb with
      | none => exact EqAt.list_none ⟨_, h1, h2, _, h3⟩ (room_here hu)
      | bool y => exact EqAt.list_bool y ⟨_, h1, h2, _, h3⟩ (room_here hu)
      | int y u => exact EqAt.list_int y u ⟨_, h1, h2, _, h3⟩ (room_here hu)
      | str y u => exact EqAt.list_str y u ⟨_, h1, h2, _, h3⟩ (room_here hu)
      | tuple k1 k2 k3 k4 => exact EqAt.list_tuple ⟨_, h1, h2, _, h3⟩ ⟨_, k1, k2, _, k3⟩ (room_here hu)
      | @list b o vs2 n2 ys bs k1 k2 k3 k4 =>
        by_cases e : l = b
        · subst e
          rw [one_read _ _ _ _ _ ha ra0 rb0, eqv_self _ hb]
          exact EqAt.same _
        · refine EqAt.of_refs e ?_
          have l1 := readsAll_len h4
          have l2 := readsAll_len k4
          rw [L2.nd] at ha hb
          by_cases hz : xs.length = ys.length
          · have := RcAt.lists (A := A) (s := s) (e := pairEq xs ys) ⟨_, h1, h2, _, h3⟩ ⟨_, k1, k2, _, k3⟩ (by simp at l1 l2; omega) (room_here hu) (fun j h1 h2 => by have q := eqAt_items xs ys A.in1 s _ _ _ _ h4 k4 ha hb (room_in (by rw [PyData.depth, PyData.depth] at hu; exact hu)) j (by simpa using h1) (by simpa using h2); rw [Array.getElem_toList, Array.getElem_toList] at q; exact q)
            rw [show PyData.eqv (.list xs) (.list ys) = PyData.eqvAll xs ys by rw [PyData.eqv], ← eqvAll_same_length hz]
            have e1 : vs1.size = xs.length := by simpa using l1
            rw [e1] at this
            exact this
          · rw [show PyData.eqv (.list xs) (.list ys) = PyData.eqvAll xs ys by rw [PyData.eqv], eqvAll_other_length hz]
            exact RcAt.lists_lengths ⟨_, h1, h2, _, h3⟩ ⟨_, k1, k2, _, k3⟩ (by simp at l1 l2; simp; omega) (room_here hu)
      | dict => rw [L2.nd] at hb; cases hb
  | .tuple xs, db, A, s, _, _, _, _, ra, rb, ha, hb, hu => by
    have ra0 := ra
    have rb0 := rb
    cases ra with
    | @tuple l o1 vs1 n1 xs as h1 h2 h3 h4 =>
      cases rb with
      | none => exact EqAt.tuple_none ⟨_, h1, h2, _, h3⟩ (room_here hu)
      | bool y => exact EqAt.tuple_bool y ⟨_, h1, h2, _, h3⟩ (room_here hu)
      | int y u => exact EqAt.tuple_int y u ⟨_, h1, h2, _, h3⟩ (room_here hu)
      | str y u => exact EqAt.tuple_str y u ⟨_, h1, h2, _, h3⟩ (room_here hu)
      | list k1 k2 k3 k4 => exact EqAt.tuple_list ⟨_, h1, h2, _, h3⟩ ⟨_, k1, k2, _, k3⟩ (room_here hu)
      | @tuple b o vs2 n2 ys bs k1 k2 k3 k4 =>
        by_cases e : l = b
        · subst e
          rw [one_read _ _ _ _ _ ha ra0 rb0, eqv_self _ hb]
          exact EqAt.same _
        · refine EqAt.of_refs e ?_
          have l1 := readsAll_len h4
          have l2 := readsAll_len k4
          rw [L2.nd] at ha hb
          have := RcAt.tuples (A := A) (s := s) (e := pairEq xs ys) ⟨_, h1, h2, _, h3⟩ ⟨_, k1, k2, _, k3⟩ (room_here hu) (fun j h1 h2 => by have q := eqAt_items xs ys A.in1 s _ _ _ _ h4 k4 ha hb (room_in (by rw [PyData.depth, PyData.depth] at hu; exact hu)) j (by simpa using h1) (by simpa using h2); rw [Array.getElem_toList, Array.getElem_toList] at q; exact q)
          rw [show PyData.eqv (.tuple xs) (.tuple ys) = PyData.eqvAll xs ys by rw [PyData.eqv], ← eqvAll_eq xs ys]
          have e1 : vs1.size = xs.length := by simpa using l1
          have e2 : vs2.size = ys.length := by simpa using l2
          rw [e1, e2] at this
          exact this
      | dict => rw [L2.nd] at hb; cases hb
  | .dict _, _, _, _, _, _, _, _, _, _, ha, _, _ => by rw [L2.nd] at ha; cases ha
theorem eqAt_items : ∀ (xs ys : List PyData) (A : Around) (s : Shared) (us ws : List Value) (as bs : List Addr), ReadsAll s.heap us xs as → ReadsAll s.heap ws ys bs → nds xs = true → nds ys = true → A.units + min (PyData.depthAll xs) (PyData.depthAll ys) < cLine →
    ∀ j (h1 : j < us.length) (h2 : j < ws.length), EqAt A s us[j] ws[j] (pairEq xs ys j)
  | [], _, _, _, _, _, _, _, r, _, _, _, _ => by cases r; intro j h1; simp at h1
  | x :: xs, ys, A, s, _, ws, _, _, r, q, ha, hb, hu => by
    cases r with
    | @cons u us d ds as1 as2 r1 r2 =>
      cases q with
      | nil => intro j h1 h2; simp at h2
      | @cons w ws y ys bs1 bs2 q1 q2 =>
        rw [nds, Bool.and_eq_true] at ha hb
        rw [PyData.depthAll, PyData.depthAll] at hu
        intro j h1 h2
        cases j with
        | zero => exact eqAt_own x y A s u w _ _ r1 q1 ha.1 hb.1 (room_head hu)
        | succ j =>
          exact eqAt_items xs ys A s us ws _ _ r2 q2 ha.2 hb.2 (room_tail hu) j (by simpa using h1) (by simpa using h2)
end
theorem rc_own {da db : PyData} {A : Around} {s : Shared} {a b : Value} {as bs : List Addr} (ra : Reads s.heap a da as) (rb : Reads s.heap b db bs) (ha : nd da = true) (hb : nd db = true) (hu : A.units + min da.depth db.depth < cLine) : RcAt A s a b (PyData.eqv da db) := by
  cases ra with
  | none =>
    cases rb with
    | none => exact RcAt.none_none
    | bool y => exact RcAt.none_bool y
    | int y u => exact RcAt.none_int y u
    | str y u => exact RcAt.none_str y u
    | @list l2 o2 ws n2 ys bs k1 k2 k3 k4 => exact RcAt.none_list ⟨_, k1, k2, _, k3⟩ (room_here hu)
    | @tuple l2 o2 ws n2 ys bs k1 k2 k3 k4 => exact RcAt.none_tuple ⟨_, k1, k2, _, k3⟩ (room_here hu)
    | dict => rw [L2.nd] at hb; cases hb
  | bool x =>
    cases rb with
    | none => exact RcAt.bool_none x
    | bool y => exact RcAt.bool_bool x y
    | int y u => exact RcAt.bool_int x y u
    | str y u => exact RcAt.bool_str x y u
    | @list l2 o2 ws n2 ys bs k1 k2 k3 k4 => exact RcAt.bool_list x ⟨_, k1, k2, _, k3⟩ (room_here hu)
    | @tuple l2 o2 ws n2 ys bs k1 k2 k3 k4 => exact RcAt.bool_tuple x ⟨_, k1, k2, _, k3⟩ (room_here hu)
    | dict => rw [L2.nd] at hb; cases hb
  | int x t =>
    cases rb with
    | none => exact RcAt.int_none x t
    | bool y => exact RcAt.int_bool x t y
    | int y u => exact RcAt.int_int x t y u
    | str y u => exact RcAt.int_str x t y u
    | @list l2 o2 ws n2 ys bs k1 k2 k3 k4 => exact RcAt.int_list x t ⟨_, k1, k2, _, k3⟩ (room_here hu)
    | @tuple l2 o2 ws n2 ys bs k1 k2 k3 k4 => exact RcAt.int_tuple x t ⟨_, k1, k2, _, k3⟩ (room_here hu)
    | dict => rw [L2.nd] at hb; cases hb
  | str x t =>
    cases rb with
    | none => exact RcAt.str_none x t
    | bool y => exact RcAt.str_bool x t y
    | int y u => exact RcAt.str_int x t y u
    | str y u => exact RcAt.str_str x t y u
    | @list l2 o2 ws n2 ys bs k1 k2 k3 k4 => exact RcAt.str_list x t ⟨_, k1, k2, _, k3⟩ (room_here hu)
    | @tuple l2 o2 ws n2 ys bs k1 k2 k3 k4 => exact RcAt.str_tuple x t ⟨_, k1, k2, _, k3⟩ (room_here hu)
    | dict => rw [L2.nd] at hb; cases hb
  | @list l o vs n xs as h1 h2 h3 h4 =>
    cases rb with
    | none => exact RcAt.list_none ⟨_, h1, h2, _, h3⟩ (room_here hu)
    | bool y => exact RcAt.list_bool y ⟨_, h1, h2, _, h3⟩ (room_here hu)
    | int y u => exact RcAt.list_int y u ⟨_, h1, h2, _, h3⟩ (room_here hu)
    | str y u => exact RcAt.list_str y u ⟨_, h1, h2, _, h3⟩ (room_here hu)
    | @list l2 o2 ws n2 ys bs k1 k2 k3 k4 =>
      have l1 : vs.size = xs.length := by simpa using readsAll_len h4
      have l2 : ws.size = ys.length := by simpa using readsAll_len k4
      rw [L2.nd] at ha hb
      rw [PyData.depth, PyData.depth] at hu
      have hi : ∀ j (h1 : j < vs.size) (h2 : j < ws.size), EqAt A.in1 s vs[j] ws[j] (pairEq xs ys j) := fun j h1 h2 => by
        have q := eqAt_items xs ys A.in1 s _ _ _ _ h4 k4 ha hb (room_in hu) j (by simpa using h1) (by simpa using h2)
        rw [Array.getElem_toList, Array.getElem_toList] at q
        exact q
      have hu' : A.units < cLine := room_here hu
      rw [show PyData.eqv (.list xs) (.list ys) = PyData.eqvAll xs ys by rw [PyData.eqv]]
      by_cases hz : xs.length = ys.length
      · have q := RcAt.lists (A := A) (s := s) (e := pairEq xs ys) ⟨_, h1, h2, _, h3⟩ ⟨_, k1, k2, _, k3⟩ (by omega) hu' hi
        rw [l1, eqvAll_same_length hz] at q
        exact q
      · rw [eqvAll_other_length hz]
        exact RcAt.lists_lengths ⟨_, h1, h2, _, h3⟩ ⟨_, k1, k2, _, k3⟩ (by simp; omega) hu'
    | @tuple l2 o2 ws n2 ys bs k1 k2 k3 k4 => exact RcAt.list_tuple ⟨_, h1, h2, _, h3⟩ ⟨_, k1, k2, _, k3⟩ (room_here hu)
    | dict => rw [L2.nd] at hb; cases hb
  | @tuple l o vs n xs as h1 h2 h3 h4 =>
    cases rb with
    | none => exact RcAt.tuple_none ⟨_, h1, h2, _, h3⟩ (room_here hu)
    | bool y => exact RcAt.tuple_bool y ⟨_, h1, h2, _, h3⟩ (room_here hu)
    | int y u => exact RcAt.tuple_int y u ⟨_, h1, h2, _, h3⟩ (room_here hu)
    | str y u => exact RcAt.tuple_str y u ⟨_, h1, h2, _, h3⟩ (room_here hu)
    | @list l2 o2 ws n2 ys bs k1 k2 k3 k4 => exact RcAt.tuple_list ⟨_, h1, h2, _, h3⟩ ⟨_, k1, k2, _, k3⟩ (room_here hu)
    | @tuple l2 o2 ws n2 ys bs k1 k2 k3 k4 =>
      have l1 : vs.size = xs.length := by simpa using readsAll_len h4
      have l2 : ws.size = ys.length := by simpa using readsAll_len k4
      rw [L2.nd] at ha hb
      rw [PyData.depth, PyData.depth] at hu
      have hi : ∀ j (h1 : j < vs.size) (h2 : j < ws.size), EqAt A.in1 s vs[j] ws[j] (pairEq xs ys j) := fun j h1 h2 => by
        have q := eqAt_items xs ys A.in1 s _ _ _ _ h4 k4 ha hb (room_in hu) j (by simpa using h1) (by simpa using h2)
        rw [Array.getElem_toList, Array.getElem_toList] at q
        exact q
      have hu' : A.units < cLine := room_here hu
      rw [show PyData.eqv (.tuple xs) (.tuple ys) = PyData.eqvAll xs ys by rw [PyData.eqv]]
      have q := RcAt.tuples (A := A) (s := s) (e := pairEq xs ys) ⟨_, h1, h2, _, h3⟩ ⟨_, k1, k2, _, k3⟩ hu' hi
      rw [l1, l2, eqvAll_eq xs ys] at q
      exact q
    | dict => rw [L2.nd] at hb; cases hb
  | dict => rw [L2.nd] at ha; cases ha
theorem rcNe_own {da db : PyData} {A : Around} {s : Shared} {a b : Value} {as bs : List Addr} (ra : Reads s.heap a da as) (rb : Reads s.heap b db bs) (ha : nd da = true) (hb : nd db = true) (hu : A.units + min da.depth db.depth < cLine) : RcNeAt A s a b (!PyData.eqv da db) := by
  cases ra with
  | none =>
    cases rb with
    | none => exact RcNeAt.none_none
    | bool y => exact RcNeAt.none_bool y
    | int y u => exact RcNeAt.none_int y u
    | str y u => exact RcNeAt.none_str y u
    | @list l2 o2 ws n2 ys bs k1 k2 k3 k4 => exact RcNeAt.none_list ⟨_, k1, k2, _, k3⟩ (room_here hu)
    | @tuple l2 o2 ws n2 ys bs k1 k2 k3 k4 => exact RcNeAt.none_tuple ⟨_, k1, k2, _, k3⟩ (room_here hu)
    | dict => rw [L2.nd] at hb; cases hb
  | bool x =>
    cases rb with
    | none => exact RcNeAt.bool_none x
    | bool y => exact RcNeAt.bool_bool x y
    | int y u => exact RcNeAt.bool_int x y u
    | str y u => exact RcNeAt.bool_str x y u
    | @list l2 o2 ws n2 ys bs k1 k2 k3 k4 => exact RcNeAt.bool_list x ⟨_, k1, k2, _, k3⟩ (room_here hu)
    | @tuple l2 o2 ws n2 ys bs k1 k2 k3 k4 => exact RcNeAt.bool_tuple x ⟨_, k1, k2, _, k3⟩ (room_here hu)
    | dict => rw [L2.nd] at hb; cases hb
  | int x t =>
    cases rb with
    | none => exact RcNeAt.int_none x t
    | bool y => exact RcNeAt.int_bool x t y
    | int y u => exact RcNeAt.int_int x t y u
    | str y u => exact RcNeAt.int_str x t y u
    | @list l2 o2 ws n2 ys bs k1 k2 k3 k4 => exact RcNeAt.int_list x t ⟨_, k1, k2, _, k3⟩ (room_here hu)
    | @tuple l2 o2 ws n2 ys bs k1 k2 k3 k4 => exact RcNeAt.int_tuple x t ⟨_, k1, k2, _, k3⟩ (room_here hu)
    | dict => rw [L2.nd] at hb; cases hb
  | str x t =>
    cases rb with
    | none => exact RcNeAt.str_none x t
    | bool y => exact RcNeAt.str_bool x t y
    | int y u => exact RcNeAt.str_int x t y u
    | str y u => exact RcNeAt.str_str x t y u
    | @list l2 o2 ws n2 ys bs k1 k2 k3 k4 => exact RcNeAt.str_list x t ⟨_, k1, k2, _, k3⟩ (room_here hu)
    | @tuple l2 o2 ws n2 ys bs k1 k2 k3 k4 => exact RcNeAt.str_tuple x t ⟨_, k1, k2, _, k3⟩ (room_here hu)
    | dict => rw [L2.nd] at hb; cases hb
  | @list l o vs n xs as h1 h2 h3 h4 =>
    cases rb with
    | none => exact RcNeAt.list_none ⟨_, h1, h2, _, h3⟩ (room_here hu)
    | bool y => exact RcNeAt.list_bool y ⟨_, h1, h2, _, h3⟩ (room_here hu)
    | int y u => exact RcNeAt.list_int y u ⟨_, h1, h2, _, h3⟩ (room_here hu)
    | str y u => exact RcNeAt.list_str y u ⟨_, h1, h2, _, h3⟩ (room_here hu)
    | @list l2 o2 ws n2 ys bs k1 k2 k3 k4 =>
      have l1 : vs.size = xs.length := by simpa using readsAll_len h4
      have l2 : ws.size = ys.length := by simpa using readsAll_len k4
      rw [L2.nd] at ha hb
      rw [PyData.depth, PyData.depth] at hu
      have hi : ∀ j (h1 : j < vs.size) (h2 : j < ws.size), EqAt A.in1 s vs[j] ws[j] (pairEq xs ys j) := fun j h1 h2 => by
        have q := eqAt_items xs ys A.in1 s _ _ _ _ h4 k4 ha hb (room_in hu) j (by simpa using h1) (by simpa using h2)
        rw [Array.getElem_toList, Array.getElem_toList] at q
        exact q
      have hu' : A.units < cLine := room_here hu
      rw [show PyData.eqv (.list xs) (.list ys) = PyData.eqvAll xs ys by rw [PyData.eqv]]
      by_cases hz : xs.length = ys.length
      · have q := RcNeAt.lists (A := A) (s := s) (e := pairEq xs ys) ⟨_, h1, h2, _, h3⟩ ⟨_, k1, k2, _, k3⟩ (by omega) hu' hi
        rw [l1, eqvAll_same_length hz] at q
        exact q
      · rw [eqvAll_other_length hz]
        exact RcNeAt.lists_lengths ⟨_, h1, h2, _, h3⟩ ⟨_, k1, k2, _, k3⟩ (by simp; omega) hu'
    | @tuple l2 o2 ws n2 ys bs k1 k2 k3 k4 => exact RcNeAt.list_tuple ⟨_, h1, h2, _, h3⟩ ⟨_, k1, k2, _, k3⟩ (room_here hu)
    | dict => rw [L2.nd] at hb; cases hb
  | @tuple l o vs n xs as h1 h2 h3 h4 =>
    cases rb with
    | none => exact RcNeAt.tuple_none ⟨_, h1, h2, _, h3⟩ (room_here hu)
    | bool y => exact RcNeAt.tuple_bool y ⟨_, h1, h2, _, h3⟩ (room_here hu)
    | int y u => exact RcNeAt.tuple_int y u ⟨_, h1, h2, _, h3⟩ (room_here hu)
    | str y u => exact RcNeAt.tuple_str y u ⟨_, h1, h2, _, h3⟩ (room_here hu)
    | @list l2 o2 ws n2 ys bs k1 k2 k3 k4 => exact RcNeAt.tuple_list ⟨_, h1, h2, _, h3⟩ ⟨_, k1, k2, _, k3⟩ (room_here hu)
    | @tuple l2 o2 ws n2 ys bs k1 k2 k3 k4 =>
      have l1 : vs.size = xs.length := by simpa using readsAll_len h4
      have l2 : ws.size = ys.length := by simpa using readsAll_len k4
      rw [L2.nd] at ha hb
      rw [PyData.depth, PyData.depth] at hu
      have hi : ∀ j (h1 : j < vs.size) (h2 : j < ws.size), EqAt A.in1 s vs[j] ws[j] (pairEq xs ys j) := fun j h1 h2 => by
        have q := eqAt_items xs ys A.in1 s _ _ _ _ h4 k4 ha hb (room_in hu) j (by simpa using h1) (by simpa using h2)
        rw [Array.getElem_toList, Array.getElem_toList] at q
        exact q
      have hu' : A.units < cLine := room_here hu
      rw [show PyData.eqv (.tuple xs) (.tuple ys) = PyData.eqvAll xs ys by rw [PyData.eqv]]
      have q := RcNeAt.tuples (A := A) (s := s) (e := pairEq xs ys) ⟨_, h1, h2, _, h3⟩ ⟨_, k1, k2, _, k3⟩ hu' hi
      rw [l1, l2, eqvAll_eq xs ys] at q
      exact q
    | dict => rw [L2.nd] at hb; cases hb
  | dict => rw [L2.nd] at ha; cases ha
end L2
namespace L2
open PySem PySem.Spec PyProof.Rows PySem.SeqAt
section
variable {X : Cx}
theorem u190 {k : Nat} {A : Around} (r : Room k A) : A.units + 190 < cLine := by have := r.un; omega
def rEqA (K : PySem.W.Frag) : R2 := fun x y H Q => rEq x y H Q ∨ ∃ d e, Dv K H d x ∧ Dv K H e y ∧ min d.depth e.depth ≤ 190 ∧ Q (.bl (PyData.eqv d e)) H
def rNeA (K : PySem.W.Frag) : R2 := fun x y H Q => rNe x y H Q ∨ ∃ d e, Dv K H d x ∧ Dv K H e y ∧ min d.depth e.depth ≤ 190 ∧ Q (.bl (!PyData.eqv d e)) H
theorem op_eqA (hu : X.A.units + 190 < cLine) : OpR X (compareOp .Eq) (rEqA X.K) := by
  refine op_eq.or ?_
  intro pins s σ H x y v u Q I rx ry h
  obtain ⟨d, e, hx, hy, hz, q⟩ := h
  obtain ⟨as, ra⟩ := Dv.reads I d x v hx rx
  obtain ⟨bs, rb⟩ := Dv.reads I e y u hy ry
  have hroom : X.A.units + min d.depth e.depth < cLine := Nat.lt_of_le_of_lt (Nat.add_le_add_left hz _) hu
  exact rc_own ra rb (Dv.nd d x hx) (Dv.nd e y hy) hroom X.prog X.w X.xe _ ⟨.bl _, H, I, rfl, q⟩
theorem op_neA (hu : X.A.units + 190 < cLine) : OpR X (compareOp .NotEq) (rNeA X.K) := by
  refine op_ne.or ?_
  intro pins s σ H x y v u Q I rx ry h
  obtain ⟨d, e, hx, hy, hz, q⟩ := h
  obtain ⟨as, ra⟩ := Dv.reads I d x v hx rx
  obtain ⟨bs, rb⟩ := Dv.reads I e y u hy ry
  have hroom : X.A.units + min d.depth e.depth < cLine := Nat.lt_of_le_of_lt (Nat.add_le_add_left hz _) hu
  exact rcNe_own ra rb (Dv.nd d x hx) (Dv.nd e y hy) hroom X.prog X.w X.xe _ ⟨.bl _, H, I, rfl, q⟩
def rAddA (K : PySem.W.Frag) : R2 := fun x y H Q => rI0 (fun i j => .int (i + j)) x y H Q ∨ (∃ i j, x = .str i ∧ y = .str j ∧ i.length + j.length ≤ sizeLine ∧ Q (.str (i ++ j)) H) ∨ rCat x y H Q ∨ rCatT K x y H Q
theorem op_addA : OpR X (binaryOp .Add) (rAddA X.K) := op_add.or (op_add_str.or (op_cat.or op_catT))
def rMulS : R2 := fun x y H Q => ∃ z n, x = .str z ∧ y = .int n ∧ 0 ≤ n ∧ n ≤ 1000 ∧ z.length ≤ 1000 ∧ Q (.str (PySem.Txt.mul z n)) H
theorem op_mul_str : OpR X (binaryOp .Mult) rMulS := by
  intro pins s σ H x y v u Q I rx ry h
  obtain ⟨z, n, rfl, rfl, h0, h1, h2, q⟩ := h
  obtain ⟨t, rfl⟩ := rx
  obtain ⟨t', rfl⟩ := ry
  refine wpAny_with_toks (n := 1) I.tk (SB.mul ⟨?_, fun hn _ => ?_, fun hn _ => ?_⟩ fun t' k ht => ⟨.str _, H, I.tok _ ht, ⟨_, rfl⟩, q⟩)
  · rw [decide_eq_false (by omega), decide_eq_false (by omega)]; rfl
  · have e1 : (2 ^ 63 - 1 : Int) / n ≥ (2 ^ 63 - 1) / 1000 := by
      have hp : (0 : Int) < n := by omega
      apply Int.le_ediv_of_mul_le hp
      have : (2 ^ 63 - 1 : Int) / 1000 * n ≤ (2 ^ 63 - 1) / 1000 * 1000 := Int.mul_le_mul_of_nonneg_left h1 (by decide)
      have e : (2 ^ 63 - 1 : Int) / 1000 * 1000 ≤ 2 ^ 63 - 1 := by decide
      omega
    have e2 : (2 ^ 63 - 1 : Int) / 1000 ≥ 1000 := by decide
    omega
  · have : z.length * n.toNat ≤ 1000 * 1000 := Nat.mul_le_mul h2 (by omega)
    have hs : sizeLine = 16777216 := sizeLine_eq
    unfold Builtin.Str.tooLong
    exact decide_eq_false (by omega)
def rMulA : R2 := fun x y H Q => rI CMul (fun i j => .int (i * j)) x y H Q ∨ rMulS x y H Q ∨ rRep x y H Q
theorem op_mulA : OpR X (binaryOp .Mult) rMulA := op_mul.or (op_mul_str.or op_rep)
def rLtS : R2 := fun x y H Q => ∃ i j : Str, x = .str i ∧ y = .str j ∧ Q (.bl (decide (i.cps.toList < j.cps.toList))) H
def rLeS : R2 := fun x y H Q => ∃ i j : Str, x = .str i ∧ y = .str j ∧ Q (.bl (!decide (j.cps.toList < i.cps.toList))) H
def rGtS : R2 := fun x y H Q => ∃ i j : Str, x = .str i ∧ y = .str j ∧ Q (.bl (decide (j.cps.toList < i.cps.toList))) H
def rGeS : R2 := fun x y H Q => ∃ i j : Str, x = .str i ∧ y = .str j ∧ Q (.bl (!decide (i.cps.toList < j.cps.toList))) H
theorem op_le_str : OpR X (compareOp .LtE) rLeS := by
  intro pins s σ H x y v u Q I rx ry h
  obtain ⟨i, j, rfl, rfl, q⟩ := h
  obtain ⟨t, rfl⟩ := rx
  obtain ⟨t', rfl⟩ := ry
  exact PySem.P.le_str ⟨.bl _, H, I, rfl, q⟩
theorem op_gt_str : OpR X (compareOp .Gt) rGtS := by
  intro pins s σ H x y v u Q I rx ry h
  obtain ⟨i, j, rfl, rfl, q⟩ := h
  obtain ⟨t, rfl⟩ := rx
  obtain ⟨t', rfl⟩ := ry
  exact PySem.P.gt_str ⟨.bl _, H, I, rfl, q⟩
theorem op_ge_str : OpR X (compareOp .GtE) rGeS := by
  intro pins s σ H x y v u Q I rx ry h
  obtain ⟨i, j, rfl, rfl, q⟩ := h
  obtain ⟨t, rfl⟩ := rx
  obtain ⟨t', rfl⟩ := ry
  exact PySem.P.ge_str ⟨.bl _, H, I, rfl, q⟩
def rLtA : R2 := fun x y H Q => rI0 (fun i j => .bl (decide (i < j))) x y H Q ∨ rLtS x y H Q
def rLeA : R2 := fun x y H Q => rI0 (fun i j => .bl (decide (i ≤ j))) x y H Q ∨ rLeS x y H Q
def rGtA : R2 := fun x y H Q => rI0 (fun i j => .bl (decide (j < i))) x y H Q ∨ rGtS x y H Q
def rGeA : R2 := fun x y H Q => rI0 (fun i j => .bl (decide (j ≤ i))) x y H Q ∨ rGeS x y H Q
theorem op_ltA : OpR X (compareOp .Lt) rLtA := op_lt.or op_lt_str
theorem op_leA : OpR X (compareOp .LtE) rLeA := op_le.or op_le_str
theorem op_gtA : OpR X (compareOp .Gt) rGtA := op_gt.or op_gt_str
theorem op_geA : OpR X (compareOp .GtE) rGeA := op_ge.or op_ge_str
def rInS (neg : Bool) : R2 := fun x y H Q => ∃ i j : Str, x = .str i ∧ y = .str j ∧ Q (.bl (if neg then !(!(Builtin.Str.occurrences j i 0 j.length 1).isEmpty) else !(Builtin.Str.occurrences j i 0 j.length 1).isEmpty)) H
def rInA (K : PySem.W.Frag) (neg : Bool) : R2 := fun x y H Q => rIn K neg x y H Q ∨ rInS neg x y H Q
theorem op_inA : OpR X (compareOp .In) (rInA X.K false) := op_in_seq.or op_in_str
def rIsA : R2 := fun x y H Q => y = .non ∧ Q (.bl (decide (x = .non))) H
def rIsNotA : R2 := fun x y H Q => y = .non ∧ Q (.bl (!decide (x = .non))) H
theorem op_isA : OpR X (compareOp .Is) rIsA := op_isN
theorem op_isnotA : OpR X (compareOp .IsNot) rIsNotA := op_notN
def rLenA (K : PySem.W.Frag) : List V → Hp → VK → Prop := fun xs H Q => (∃ p ys, xs = [.ref p] ∧ (SqL K H p ys ∨ SqT K H p ys) ∧ Q (.int ys.length) H) ∨ (∃ z, xs = [.str z] ∧ z.length ≤ sizeLine ∧ Q (.int z.length) H) ∨
  ∃ a kvs, xs = [V.ref a] ∧ H a = some (.dK kvs) ∧ Q (.int kvs.length) H
theorem call_lenA : CallR X (.builtin "len") (rLenA X.K) := call_len_seq.or (call_len_str.or call_lenD)
def rListA (K : PySem.W.Frag) : List V → Hp → VK → Prop := fun xs H Q => ∃ p ys, xs = [.ref p] ∧ (SqL K H p ys ∨ SqT K H p ys) ∧ ∀ l, H l = none → Q (.ref l) (upd H l (.lst ys))
theorem call_listA : CallR X (.type "list") (rListA X.K) := call_list_of
def rTupleA (K : PySem.W.Frag) : List V → Hp → VK → Prop := fun xs H Q => ∃ p ys, xs = [.ref p] ∧ ((SqL K H p ys ∧ ∀ l, H l = none → Q (.ref l) (upd H l (.tup ys))) ∨ (SqT K H p ys ∧ Q (.ref p) H))
theorem call_tupleA : CallR X (.type "tuple") (rTupleA X.K) := call_tuple_of
def rIntA : List V → Hp → VK → Prop := fun xs H Q => (∃ i, xs = [.int i] ∧ Q (.int i) H) ∨ ∃ k, xs = [.bl k] ∧ Q (.int (if k then 1 else 0)) H
theorem call_intA : CallR X (.type "int") rIntA := call_int1
theorem strs_are : ∀ {xs : List Str} {us : List Value}, Vals (strV xs) us → StrsAre us xs
  | [], _, h => by cases h; exact .nil
  | x :: xs, _, h => by
    have h : Vals (V.str x :: strV xs) _ := h
    cases h with
    | cons r t =>
      obtain ⟨t', rfl⟩ := r
      exact .cons x t' (strs_are t)
theorem vals_strs : ∀ {xs : List Str} {us : List Value}, StrsAre us xs → Vals (strV xs) us
  | _, _, .nil => .nil
  | _, _, .cons y t h => .cons ⟨t, rfl⟩ (vals_strs h)
def rSortedS (K : PySem.W.Frag) : List V → Hp → VK → Prop := fun xs H Q => ∃ p ys, xs = [.ref p] ∧ SqL K H p (strV ys) ∧ ys.length < 64 ∧
  ∀ l ys', ys'.Perm ys → sortedS ys' = true → H l = none → Q (.ref l) (upd H l (.lst (strV ys')))
theorem call_sortedA : CallR X (.builtin "sorted") (rSortedS X.K) := by
  intro pins s σ H xs us Q I r h
  obtain ⟨p, ys, rfl, hq, hl, q⟩ := h
  obtain ⟨u, rfl, rx⟩ := vals1 r
  cases rx
  obtain ⟨its, rv, pl, hz⟩ := I.list hq
  have hlen := rv.length
  have hn : (strV ys).length = ys.length := List.length_map _
  refine sorted_strs pl.isList (strs_are rv) (by omega) fun out ss' h1 h2 h3 => ?_
  have kp : ∀ b o, s.heap.get? b = some o → (sortedAll s.heap its out).get? b = some o := fun b o e => sortedAll_old e
  obtain ⟨e, he⟩ := sortedAll_at s.heap its out
  have hf : H (s.heap.objs.size + 1) = none := I.hok.fresh (Nat.le_succ _)
  have hz' : (strV ss').length ≤ sizeLine := by
    have := h2.length_eq
    show (ss'.map V.str).length ≤ _
    rw [List.length_map]; rw [hn] at hz; omega
  refine ⟨.ref (s.heap.objs.size + 1), _, I.laid (t' := s.toks) (o := .lst (strV ss')) kp (Nat.le_succ _) ?_, rfl, q _ _ h2 h3 hf⟩
  exact ⟨hz', out.toList, e, vals_strs h1, by simpa [seqObj] using he⟩
def rJoin (K : PySem.W.Frag) : V → List V → Hp → VK → Prop := fun x vs H Q => ∃ z p ys, x = .str z ∧ vs = [.ref p] ∧ (SqL K H p (strV ys) ∨ SqT K H p (strV ys)) ∧ (ys.map (·.length)).sum + ys.length * z.length ≤ 16777216 ∧ Q (.str (PySem.Txt.join z ys)) H
theorem mt_join : MtR X "str.join" (rJoin X.K) := by
  intro pins s σ H x vs v us Q I rx rv h
  obtain ⟨z, p, ys, rfl, rfl, hq, hs, q⟩ := h
  obtain ⟨t, rfl⟩ := rx
  obtain ⟨u, rfl, ru⟩ := rv.one
  cases ru
  rcases hq with hq | hq
  · obtain ⟨its, r, pl, hz⟩ := I.list hq
    exact wpAny_with_toks (n := 1) I.tk (join_list pl.isList (by simpa using strs_are r) hs fun t' k ht => ⟨.str _, H, I.tok _ ht, ⟨_, rfl⟩, q⟩)
  · obtain ⟨its, r, pl, hz⟩ := I.tuple hq
    exact wpAny_with_toks (n := 1) I.tk (join_tuple pl (by simpa using strs_are r) hs fun t' k ht => ⟨.str _, H, I.tok _ ht, ⟨_, rfl⟩, q⟩)
def insAt {α : Type} (xs : List α) (k : Nat) (y : α) : List α := xs.take k ++ y :: xs.drop k
def rInsert : V → List V → Hp → VK → Prop := fun x vs H Q => ∃ (l : Addr) (xs : List V) (i : Int) (y : V), x = .ref l ∧ vs = [.int i, y] ∧ H l = some (.lst xs) ∧ 0 ≤ i ∧ i ≤ xs.length ∧ xs.length < sizeLine ∧ Q .non (upd H l (.lst (insAt xs i.toNat y)))
theorem mt_insert : MtR X "list.insert" rInsert := by
  intro pins s σ H x vs v us Q I rx rv h
  obtain ⟨l, xs, i, y, rfl, rfl, hH, h0, h1, hz, q⟩ := h
  cases rx
  obtain ⟨u, w', rfl, ru, rw'⟩ := rv.two
  obtain ⟨t, rfl⟩ := ru
  obtain ⟨z, its, n, r, hl, e⟩ := I.lstM hH
  have hs : sizeLine = 16777216 := sizeLine_eq
  refine call_meets F.slot_list_insert ⟨_, e, rfl⟩ F.entry_list_insert (F.args_list_insert_3 _ _ _) (AutoListH.list_insert_list_int_val_1 l its.toArray n i t w' (by rw [fitsIndex_both (by omega) (by omega)]; exact Bool.false_ne_true) (by rw [List.size_toArray]; omega)) ⟨e, ?_⟩
  refine ⟨.non, _, I.lset (its' := insAt its i.toNat w') (t' := s.toks) hH e ?_ ?_ ?_, rfl, q⟩
  · have hi : ¬ i < 0 := by omega
    have hm : min i.toNat its.length = i.toNat := by omega
    simp only [hi, if_false, List.size_toArray, hm]
    unfold insAt
    apply Array.toList_inj.mp
    simp
    exact List.take_of_length_le (by rw [List.length_drop]; exact Nat.le_refl _)
  · exact Vals.append (r.take i.toNat) (.cons rw' (r.drop i.toNat))
  · unfold insAt
    rw [List.length_append, List.length_cons, List.length_take, List.length_drop]
    omega
end
end L2
namespace L2
open PySem PySem.Spec PyProof.Rows PySem.SeqAt
def iAny (K : PySem.W.Frag) (tl : TE) : TI := fun σ H R => tl σ H fun x H1 => ∃ a, x = .ref a ∧ (((∃ xs, SqL K H1 a xs) ∧ R (Itl K a) H1) ∨ ((∃ xs, SqT K H1 a xs) ∧ R (Itt K a) H1))
theorem pi_any {X : Cx} {tg l : Expr} {tl : TE} (hl : PE X l tl) : PI X tg l (iAny X.K tl) := by
  intro pins s σ H R I h
  refine thn (hl pins s σ H _ I h) fun v s1 ⟨x, H1, I1, r1, q1⟩ => ?_
  obtain ⟨a, e, q⟩ := q1
  subst e
  cases r1
  rcases q with ⟨⟨xs, hq⟩, q⟩ | ⟨⟨xs, hq⟩, q⟩
  · obtain ⟨its, rv, p, hz⟩ := I1.list hq
    refine wpAny_pyIter_list p.isList ?_
    refine ⟨s1.heap.objs.size, [s1.heap.objs.size], _, _, H1, rfl, I1.kept (t' := s1.toks) fun b o e => Heap.get?_push_of_some _ e, turn_list a _, ⟨_, Heap.get?_push_size _ rfl, rfl, rfl⟩, fun b hb => ?_, q⟩
    have e : b = s1.heap.objs.size := by simpa using hb
    subst e
    exact I1.fpOk (Nat.le_refl _) (I1.hok.fresh (Nat.le_refl _))
  · obtain ⟨its, rv, p, hz⟩ := I1.tuple hq
    refine wpAny_pyIter_tuple (show s1.heap.IsTuple a its.toArray from p) ?_
    refine ⟨s1.heap.objs.size, [s1.heap.objs.size], _, _, H1, rfl, I1.kept (t' := s1.toks) fun b o e => Heap.get?_push_of_some _ e, turn_tuple a _, ⟨_, Heap.get?_push_size _ rfl, rfl, rfl⟩, fun b hb => ?_, q⟩
    have e : b = s1.heap.objs.size := by simpa using hb
    subst e
    exact I1.fpOk (Nat.le_refl _) (I1.hok.fresh (Nat.le_refl _))
theorem st_for {wi : TI} {g : TG} {tb : TS} {D : Ends} {σ : St} {H : Hp} (h : wi σ H fun J H1 => ∃ W : Nat → Nat → St → Hp → Prop, (∃ m, W 0 m σ H1) ∧ ∀ i m σ H, W i m σ H →
  (J.stop i H ∧ D.nx σ H) ∨ (J.go i H ∧ ∃ N : St → Hp → Prop, (∀ σ' H', N σ' H' → ∃ m', m' < m ∧ W (i + 1) m' σ' H') ∧ ∀ x H', J.yld i H x H' → g x σ H' fun σ2 H2 => tb { D with nx := N, ct := N, bk := D.nx } σ2 H2)) : tFor wi g tb D σ H := h
abbrev ForW (g : TG) (tb : TS) (D : Ends) (σ : St) (J : It) (H1 : Hp) : Prop := ∃ W : Nat → Nat → St → Hp → Prop, (∃ m, W 0 m σ H1) ∧ ∀ i m σ H, W i m σ H →
  (J.stop i H ∧ D.nx σ H) ∨ (J.go i H ∧ ∃ N : St → Hp → Prop, (∀ σ' H', N σ' H' → ∃ m', m' < m ∧ W (i + 1) m' σ' H') ∧ ∀ x H', J.yld i H x H' → g x σ H' fun σ2 H2 => tb { D with nx := N, ct := N, bk := D.nx } σ2 H2)
theorem any_for {K : PySem.W.Frag} {g : TG} {tb : TS} {D : Ends} {σ : St} {H : Hp} {a : Addr} {xs : List V} (hq : SqL K H a xs ∨ SqT K H a xs) (Pv : Nat → St → Hp → Prop) (h0 : Pv 0 σ H)
    (hl : SqL K H a xs → ∀ i σ H, i ≤ xs.length → Pv i σ H → SqL K H a xs) (ht : SqT K H a xs → ∀ i σ H, i ≤ xs.length → Pv i σ H → SqT K H a xs)
    (hs : ∀ i x σ H, xs[i]? = some x → Pv i σ H → g x σ H fun σ2 H2 => tb { D with nx := PAt Pv (i + 1), ct := PAt Pv (i + 1), bk := D.nx } σ2 H2) (hd : ∀ σ H, Pv xs.length σ H → D.nx σ H) :
    ∃ b, V.ref a = .ref b ∧ (((∃ xs, SqL K H b xs) ∧ ForW g tb D σ (Itl K b) H) ∨ ((∃ xs, SqT K H b xs) ∧ ForW g tb D σ (Itt K b) H)) := by
  refine ⟨a, rfl, ?_⟩
  rcases hq with hq | hq
  · exact .inl ⟨⟨xs, hq⟩, for_list Pv h0 (hl hq) hs hd⟩
  · exact .inr ⟨⟨xs, hq⟩, for_tup Pv h0 (ht hq) hs hd⟩
theorem rng1_for {g : TG} {tb : TS} {D : Ends} {σ : St} {H : Hp} {n : Int} (h0 : 0 ≤ n) (hn : n < 2 ^ 62) (Pv : Nat → St → Hp → Prop) (p0 : Pv 0 σ H)
    (hs : ∀ (i : Nat) σ H, (i : Int) < n → Pv i σ H → g (.int i) σ H fun σ2 H2 => tb { D with nx := PAt Pv (i + 1), ct := PAt Pv (i + 1), bk := D.nx } σ2 H2) (hd : ∀ σ H, Pv n.toNat σ H → D.nx σ H) :
    ∃ j : Int, [V.int n] = [.int j] ∧ -(2 ^ 62) ≤ j ∧ j < 2 ^ 62 ∧ ForW g tb D σ (Itr 0 j.toNat) H :=
  ⟨n, rfl, by omega, hn, for_range (lo := 0) (n := n.toNat) Pv p0 (fun i σ H hi p => by rw [Int.zero_add]; exact hs i σ H (by omega) p) hd⟩
abbrev CompW (g : TG) (tt : TT) (te : TE) (σ' : St) (Q : VK) (J : It) (H1 : Hp) : Prop := ∃ W : Nat → Nat → List V → Hp → Prop, (∃ m, W 0 m [] H1) ∧ ∀ i m ys H, W i m ys H → ys.length ≤ sizeLine ∧
    ((J.stop i H ∧ ∀ p, H p = none → Q (.ref p) (upd H p (.lst ys))) ∨
     (J.go i H ∧ ∃ NN : List V → Hp → Prop, (∀ ys' H', NN ys' H' → ∃ m', m' < m ∧ W (i + 1) m' ys' H') ∧ ∀ x H', J.yld i H x H' → g x σ' H' fun σ2 H2 => tt σ2 H2 fun b H3 =>
        if b = true then te σ2 H3 fun y H4 => NN (ys ++ [y]) H4 else NN ys H3))
theorem st_comp {fr : List (Option Nat)} {wi : TI} {g : TG} {tt : TT} {te : TE} {σ : St} {H : Hp} {Q : VK} (h : wi σ H (CompW g tt te (grab fr σ) Q)) : tComp fr wi g tt te σ H Q := h
theorem comp_of {J : It} {n : Nat} {g : TG} {tt : TT} {te : TE} {σ' : St} {H : Hp} {Q : VK} (item : Nat → V → Prop) (Pv : Nat → List V → Hp → Prop) (h0 : Pv 0 [] H) (hlen : ∀ i ys H, i ≤ n → Pv i ys H → ys.length ≤ sizeLine)
    (hgo : ∀ i ys H, i < n → Pv i ys H → J.go i H) (hy : ∀ i ys H x H', i < n → Pv i ys H → J.yld i H x H' → H' = H ∧ item i x) (hst : ∀ ys H, Pv n ys H → J.stop n H)
    (hs : ∀ i x ys H, i < n → item i x → Pv i ys H → g x σ' H fun σ2 H2 => tt σ2 H2 fun b H3 => if b = true then te σ2 H3 fun y H4 => PAt Pv (i + 1) (ys ++ [y]) H4 else PAt Pv (i + 1) ys H3)
    (hd : ∀ ys H, Pv n ys H → ∀ p, H p = none → Q (.ref p) (upd H p (.lst ys))) : CompW g tt te σ' Q J H := by
  refine ⟨fun i m ys H => m = n - i ∧ i ≤ n ∧ Pv i ys H, ⟨n, by simp, Nat.zero_le _, h0⟩, ?_⟩
  rintro i m ys H ⟨rfl, hi, p⟩
  refine ⟨hlen i ys H hi p, ?_⟩
  by_cases hlt : i < n
  · refine .inr ⟨hgo i ys H hlt p, Pv (i + 1), fun ys' H' q => ⟨n - (i + 1), by omega, rfl, hlt, q⟩, fun x H' y => ?_⟩
    obtain ⟨rfl, hx⟩ := hy i ys H x H' hlt p y
    exact hs i x ys _ hlt hx p
  · have e : i = n := by omega
    subst e
    exact .inl ⟨hst ys H p, hd ys H p⟩
theorem any_compL {K : PySem.W.Frag} {g : TG} {tt : TT} {te : TE} {σ' : St} {H : Hp} {Q : VK} {a : Addr} {xs : List V} (hq : SqL K H a xs) (Pv : Nat → List V → Hp → Prop) (h0 : Pv 0 [] H) (hlen : ∀ i ys H, i ≤ xs.length → Pv i ys H → ys.length ≤ sizeLine)
    (hl : ∀ i ys H, i ≤ xs.length → Pv i ys H → SqL K H a xs)
    (hs : ∀ i x ys H, xs[i]? = some x → Pv i ys H → g x σ' H fun σ2 H2 => tt σ2 H2 fun b H3 => if b = true then te σ2 H3 fun y H4 => PAt Pv (i + 1) (ys ++ [y]) H4 else PAt Pv (i + 1) ys H3)
    (hd : ∀ ys H, Pv xs.length ys H → ∀ p, H p = none → Q (.ref p) (upd H p (.lst ys))) :
    ∃ b, V.ref a = .ref b ∧ (((∃ xs, SqL K H b xs) ∧ CompW g tt te σ' Q (Itl K b) H) ∨ ((∃ xs, SqT K H b xs) ∧ CompW g tt te σ' Q (Itt K b) H)) := by
  refine ⟨a, rfl, .inl ⟨⟨xs, hq⟩, comp_of (n := xs.length) (fun i x => xs[i]? = some x) Pv h0 hlen (fun i ys H hi p => ?_) (fun i ys H x H' hi p y => ?_) (fun ys H p => ?_) (fun i x ys H _ hx p => hs i x ys H hx p) hd⟩⟩
  · exact ⟨xs, xs[i], hl i ys H (Nat.le_of_lt hi) p, by simp [hi]⟩
  · exact ⟨y.1, y.2 xs (hl i ys H (Nat.le_of_lt hi) p)⟩
  · exact ⟨xs, hl _ ys H (Nat.le_refl _) p, Nat.le_refl _⟩
theorem any_forL {K : PySem.W.Frag} {g : TG} {tb : TS} {D : Ends} {σ : St} {H : Hp} {a : Addr} {xs : List V} (hq : SqL K H a xs) (Pv : Nat → St → Hp → Prop) (h0 : Pv 0 σ H)
    (hl : ∀ i σ H, i ≤ xs.length → Pv i σ H → SqL K H a xs)
    (hs : ∀ i x σ H, xs[i]? = some x → Pv i σ H → g x σ H fun σ2 H2 => tb { D with nx := PAt Pv (i + 1), ct := PAt Pv (i + 1), bk := D.nx } σ2 H2) (hd : ∀ σ H, Pv xs.length σ H → D.nx σ H) :
    ∃ b, V.ref a = .ref b ∧ (((∃ xs, SqL K H b xs) ∧ ForW g tb D σ (Itl K b) H) ∨ ((∃ xs, SqT K H b xs) ∧ ForW g tb D σ (Itt K b) H)) :=
  ⟨a, rfl, .inl ⟨⟨xs, hq⟩, for_list Pv h0 hl hs hd⟩⟩
theorem rng1_comp {g : TG} {tt : TT} {te : TE} {σ' : St} {H : Hp} {Q : VK} {n : Int} (h0 : 0 ≤ n) (hn : n < 2 ^ 62) (Pv : Nat → List V → Hp → Prop) (p0 : Pv 0 [] H) (hlen : ∀ (i : Nat) ys H, (i : Int) ≤ n → Pv i ys H → ys.length ≤ sizeLine)
    (hs : ∀ (i : Nat) ys H, (i : Int) < n → Pv i ys H → g (.int i) σ' H fun σ2 H2 => tt σ2 H2 fun b H3 => if b = true then te σ2 H3 fun y H4 => PAt Pv (i + 1) (ys ++ [y]) H4 else PAt Pv (i + 1) ys H3)
    (hd : ∀ ys H, Pv n.toNat ys H → ∀ p, H p = none → Q (.ref p) (upd H p (.lst ys))) :
    ∃ j : Int, [V.int n] = [.int j] ∧ -(2 ^ 62) ≤ j ∧ j < 2 ^ 62 ∧ CompW g tt te σ' Q (Itr 0 j.toNat) H :=
  ⟨n, rfl, by omega, hn, comp_of (n := n.toNat) (fun i x => x = .int i) Pv p0 (fun i ys H hi p => hlen i ys H (by omega) p) (fun i ys H hi _ => hi) (fun i ys H x H' hi _ y => ⟨y.1, by rw [y.2, Int.zero_add]⟩) (fun ys H _ => Nat.le_refl _)
    (fun i x ys H hi hx p => by subst hx; exact hs i ys H (by omega) p) hd⟩
theorem rng2_comp {g : TG} {tt : TT} {te : TE} {σ' : St} {H : Hp} {Q : VK} {lo hi : Int} (h1 : -(2 ^ 62) ≤ lo) (h2 : lo ≤ hi) (h3 : hi < 2 ^ 62) (Pv : Nat → List V → Hp → Prop) (p0 : Pv 0 [] H) (hlen : ∀ (i : Nat) ys H, lo + i ≤ hi → Pv i ys H → ys.length ≤ sizeLine)
    (hs : ∀ (i : Nat) ys H, lo + i < hi → Pv i ys H → g (.int (lo + i)) σ' H fun σ2 H2 => tt σ2 H2 fun b H3 => if b = true then te σ2 H3 fun y H4 => PAt Pv (i + 1) (ys ++ [y]) H4 else PAt Pv (i + 1) ys H3)
    (hd : ∀ ys H, Pv (hi - lo).toNat ys H → ∀ p, H p = none → Q (.ref p) (upd H p (.lst ys))) :
    ∃ i j : Int, [V.int lo, V.int hi] = [.int i, .int j] ∧ (-(2 ^ 62) ≤ i ∧ i < 2 ^ 62 ∧ -(2 ^ 62) ≤ j ∧ j < 2 ^ 62) ∧ CompW g tt te σ' Q (Itr i (j - i).toNat) H :=
  ⟨lo, hi, rfl, ⟨h1, by omega, by omega, h3⟩, comp_of (n := (hi - lo).toNat) (fun i x => x = .int (lo + i)) Pv p0 (fun i ys H hi' p => hlen i ys H (by omega) p) (fun i ys H hi' _ => hi') (fun i ys H x H' hi' _ y => y) (fun ys H _ => Nat.le_refl _)
    (fun i x ys H hi' hx p => by subst hx; exact hs i ys H (by omega) p) hd⟩
section
variable {σ : St} {H : Hp} {Q : VK} {D : Ends}
theorem st_seq {t u : TS} (h : t { D with nx := u D } σ H) : tSeq t u D σ H := h
theorem st_next (h : D.nx σ H) : tNext D σ H := h
theorem st_asg {te : TE} {g : TG} (h : te σ H fun x H1 => g x σ H1 D.nx) : tAsg te g D σ H := h
theorem st_name {i : Nat} {v : V} {R : St → Hp → Prop} (h : R (σ.set i (some v)) H) : gName i v σ H R := h
theorem st_var {i : Nat} {v : V} (e : σ[i]? = some (some v)) (h : Q v H) : tVar i σ H Q := ⟨v, e, h⟩
theorem st_C {v : V} (h : Q v H) : tC v σ H Q := h
theorem st_op {r : R2} {ta tb : TE} (h : ta σ H fun x H1 => tb σ H1 fun y H2 => r x y H2 Q) : tOp r ta tb σ H Q := h
theorem st_un {r : V → Hp → VK → Prop} {ta : TE} (h : ta σ H fun x H1 => r x H1 Q) : tUn r ta σ H Q := h
theorem st_ret {te : TE} (h : te σ H D.rt) : tRet te D σ H := h
theorem st_drop {te : TE} (h : te σ H fun _ H1 => D.nx σ H1) : tDrop te D σ H := h
theorem st_if {c : TT} {t u : TS} (h : c σ H fun b H1 => if b = true then t D σ H1 else u D σ H1) : tIfS c t u D σ H := h
theorem st_ifE {c : TT} {ta tb : TE} (h : c σ H fun b H1 => if b = true then ta σ H1 Q else tb σ H1 Q) : tIf c ta tb σ H Q := h
theorem st_test {t : TE} {R : Bool → Hp → Prop} (h : t σ H fun x H' => ∃ k, x = .bl k ∧ R k H') : tTest t σ H R := h
theorem st_B {t : TE} {R : Bool → Hp → Prop} (h : t σ H fun x H' => ∃ k, x = .bl k ∧ R k H') : tB t σ H R := h
theorem st_bl {b : Bool} {R : Bool → Prop} (h : R b) : ∃ k, V.bl b = .bl k ∧ R k := ⟨b, rfl, h⟩
theorem st_and {t u : TT} {R : Bool → Hp → Prop} (h : t σ H fun c H1 => if c = true then u σ H1 R else R false H1) : tAnd t u σ H R := h
theorem st_or {t u : TT} {R : Bool → Hp → Prop} (h : t σ H fun c H1 => if c = true then R true H1 else u σ H1 R) : tOr t u σ H R := h
theorem st_not {t : TT} {R : Bool → Hp → Prop} (h : t σ H fun c H1 => R (!c) H1) : tNot t σ H R := h
theorem st_andV {ta tb : TE} (h : ta σ H fun x H1 => ∃ c, x = .bl c ∧ if c = true then tb σ H1 Q else Q (.bl false) H1) : tAndV ta tb σ H Q := h
theorem st_nil {R : List V → Hp → Prop} (h : R [] H) : tNil σ H R := h
theorem st_cons {ta : TE} {tr : TA} {R : List V → Hp → Prop} (h : ta σ H fun x H1 => tr σ H1 fun xs H2 => R (x :: xs) H2) : tCons ta tr σ H R := h
theorem st_tup {t : TA} (h : t σ H fun xs H1 => xs.length ≤ sizeLine ∧ ∀ p, H1 p = none → Q (.ref p) (upd H1 p (.tup xs))) : tTup t σ H Q := h
theorem st_lst {t : TA} (h : t σ H fun xs H1 => xs.length ≤ sizeLine ∧ ∀ p, H1 p = none → Q (.ref p) (upd H1 p (.lst xs))) : tLst t σ H Q := h
theorem st_call {sp : Sp} {dvs : List V} {E : XK} {t : TA} (h : t σ H fun vs H1 => sp (vs ++ dvs) H1 Q E) : tCall sp dvs E t σ H Q := h
theorem st_CB {r : List V → Hp → VK → Prop} {t : TA} (h : t σ H fun vs H1 => r vs H1 Q) : tCB r t σ H Q := h
theorem st_tt {R : Bool → Hp → Prop} (h : R true H) : tTT σ H R := h
theorem st_any {K : PySem.W.Frag} {tl : TE} {R : It → Hp → Prop} (h : tl σ H fun x H1 => ∃ a, x = .ref a ∧ (((∃ xs, SqL K H1 a xs) ∧ R (Itl K a) H1) ∨ ((∃ xs, SqT K H1 a xs) ∧ R (Itt K a) H1))) : iAny K tl σ H R := h
theorem st_rng1 {ta : TA} {R : It → Hp → Prop} (h : ta σ H fun vs H1 => ∃ j : Int, vs = [.int j] ∧ -(2 ^ 62) ≤ j ∧ j < 2 ^ 62 ∧ R (Itr 0 j.toNat) H1) : iRng1 ta σ H R := h
theorem st_rng2 {ta : TA} {R : It → Hp → Prop} (h : ta σ H fun vs H1 => ∃ i j : Int, vs = [.int i, .int j] ∧ (-(2 ^ 62) ≤ i ∧ i < 2 ^ 62 ∧ -(2 ^ 62) ≤ j ∧ j < 2 ^ 62) ∧ R (Itr i (j - i).toNat) H1) : iRng2 ta σ H R := h
theorem st_sub {to ti : TE} {t : TSet} {v : V} {R : St → Hp → Prop} (h : to σ H fun o H1 => ti σ H1 fun i H2 => t o i v H2 fun H3 => R σ H3) : gSub to ti t v σ H R := h
theorem st_bm {K : PySem.W.Frag} {T : String} {r : V → List V → Hp → VK → Prop} {to : TE} {t : TA} (h : to σ H fun x H1 => tyV K T x H1 ∧ t σ H1 fun xs H2 => r x xs H2 Q) : tBM K T r to t σ H Q := h
theorem st_chain {r r' : R2} {ta tb tc : TE} (h : ta σ H fun x H1 => tb σ H1 fun y H2 => r x y H2 fun z H3 => ∃ k, z = .bl k ∧ (if k = true then tc σ H3 fun w' H4 => r' y w' H4 Q else Q (.bl false) H3)) : tChain r r' ta tb tc σ H Q := h
end
section
variable {H : Hp} {Q : VK} {K : PySem.W.Frag}
theorem v_addI {i j : Int} (h : Q (.int (i + j)) H) : rAddA K (.int i) (.int j) H Q := .inl ⟨i, j, rfl, rfl, h⟩
theorem v_addS {i j : Str} (hz : i.length + j.length ≤ sizeLine) (h : Q (.str (i ++ j)) H) : rAddA K (.str i) (.str j) H Q := .inr (.inl ⟨i, j, rfl, rfl, hz, h⟩)
theorem v_cat {a b : Addr} {xs ys : List V} (h1 : H a = some (.lst xs)) (h2 : H b = some (.lst ys)) (hz : xs.length + ys.length ≤ sizeLine) (h : ∀ p, H p = none → Q (.ref p) (upd H p (.lst (xs ++ ys)))) : rAddA K (.ref a) (.ref b) H Q := .inr (.inr (.inl ⟨a, b, xs, ys, rfl, rfl, h1, h2, hz, h⟩))
theorem v_subI {i j : Int} (h : Q (.int (i - j)) H) : rI0 (fun i j => .int (i - j)) (.int i) (.int j) H Q := ⟨i, j, rfl, rfl, h⟩
theorem v_mulI {i j : Int} (c : CMul i j) (h : Q (.int (i * j)) H) : rMulA (.int i) (.int j) H Q := .inl ⟨i, j, rfl, rfl, c, h⟩
theorem v_mulS {z : Str} {n : Int} (h0 : 0 ≤ n) (h1 : n ≤ 1000) (h2 : z.length ≤ 1000) (h : Q (.str (PySem.Txt.mul z n)) H) : rMulA (.str z) (.int n) H Q := .inr (.inl ⟨z, n, rfl, rfl, h0, h1, h2, h⟩)
theorem v_fdiv {i j : Int} (c : CDiv i j) (h : Q (.int (i / j)) H) : rI CDiv (fun i j => .int (i / j)) (.int i) (.int j) H Q := ⟨i, j, rfl, rfl, c, h⟩
theorem v_mod {i j : Int} (c : 0 < j) (h : Q (.int (i % j)) H) : rI (fun _ j => 0 < j) (fun i j => .int (i % j)) (.int i) (.int j) H Q := ⟨i, j, rfl, rfl, c, h⟩
theorem v_ltI {i j : Int} (h : Q (.bl (decide (i < j))) H) : rLtA (.int i) (.int j) H Q := .inl ⟨i, j, rfl, rfl, h⟩
theorem v_leI {i j : Int} (h : Q (.bl (decide (i ≤ j))) H) : rLeA (.int i) (.int j) H Q := .inl ⟨i, j, rfl, rfl, h⟩
theorem v_gtI {i j : Int} (h : Q (.bl (decide (j < i))) H) : rGtA (.int i) (.int j) H Q := .inl ⟨i, j, rfl, rfl, h⟩
theorem v_geI {i j : Int} (h : Q (.bl (decide (j ≤ i))) H) : rGeA (.int i) (.int j) H Q := .inl ⟨i, j, rfl, rfl, h⟩
theorem v_eq {x y : V} (c : scal x y = true) (h : Q (.bl (decide (x = y))) H) : rEqA K x y H Q := .inl ⟨c, h⟩
theorem v_ne {x y : V} (c : scal x y = true) (h : Q (.bl (!decide (x = y))) H) : rNeA K x y H Q := .inl ⟨c, h⟩
theorem v_eqM {x y : V} {d e : PyData} (h1 : Dv K H d x) (h2 : Dv K H e y) (hz : min d.depth e.depth ≤ 190) (h : Q (.bl (PyData.eqv d e)) H) : rEqA K x y H Q := .inr ⟨d, e, h1, h2, hz, h⟩
theorem v_neD {x y : V} {d e : PyData} (h1 : Dv K H d x) (h2 : Dv K H e y) (hz : d.depth ≤ 64) (h : Q (.bl (!PyData.eqv d e)) H) : rNeA K x y H Q := .inr ⟨d, e, h1, h2, by omega, h⟩
theorem v_neM {x y : V} {d e : PyData} (h1 : Dv K H d x) (h2 : Dv K H e y) (hz : min d.depth e.depth ≤ 190) (h : Q (.bl (!PyData.eqv d e)) H) : rNeA K x y H Q := .inr ⟨d, e, h1, h2, hz, h⟩
theorem v_is {x : V} (h : Q (.bl (decide (x = .non))) H) : rIsA x .non H Q := ⟨rfl, h⟩
theorem v_isnot {x : V} (h : Q (.bl (!decide (x = .non))) H) : rIsNotA x .non H Q := ⟨rfl, h⟩
theorem v_ixL {p : Addr} {xs : List V} {i : Int} {v : V} (h1 : SqL K H p xs) (e : atI xs i = some v) (h : Q v H) : rIx K (.ref p) (.int i) H Q := .inl ⟨p, xs, i, v, rfl, rfl, h1, e, h⟩
theorem v_ixT {p : Addr} {xs : List V} {i : Int} {v : V} (h1 : SqT K H p xs) (e : atI xs i = some v) (h : Q v H) : rIx K (.ref p) (.int i) H Q := .inr (.inl ⟨p, xs, i, v, rfl, rfl, h1, e, h⟩)
theorem v_ixS {z : Str} {i : Int} {c : Nat} (hz : z.length ≤ sizeLine) (e : atI z.cps.toList i = some c) (h : Q (.str ⟨#[c]⟩) H) : rIx K (.str z) (.int i) H Q := .inr (.inr ⟨z, i, c, rfl, rfl, hz, e, h⟩)
theorem v_in {x : V} {p : Addr} {xs : List V} (h1 : SqL K H p xs ∨ SqT K H p xs) (fx : flatV x = true) (fs : xs.all flatV = true) (h : Q (.bl (inV x xs)) H) : rInA K false x (.ref p) H Q := .inl ⟨p, xs, rfl, h1, fx, fs, h⟩
theorem v_lenQ {p : Addr} {xs : List V} (h1 : SqL K H p xs ∨ SqT K H p xs) (h : Q (.int xs.length) H) : rLenA K [.ref p] H Q := .inl ⟨p, xs, rfl, h1, h⟩
theorem v_lenS {z : Str} (hz : z.length ≤ sizeLine) (h : Q (.int z.length) H) : rLenA K [.str z] H Q := .inr (.inl ⟨z, rfl, hz, h⟩)
theorem v_setL {p : Addr} {xs : List V} {k : Int} {v : V} {j : Nat} {R : Hp → Prop} (h1 : H p = some (.lst xs)) (e : ixN xs.length k = some j) (h : R (upd H p (.lst (xs.set j v)))) : rSetL (.ref p) (.int k) v H R := ⟨p, xs, k, j, rfl, rfl, h1, e, h⟩
theorem v_append {p : Addr} {xs : List V} {y : V} (h1 : H p = some (.lst xs)) (hz : xs.length < sizeLine) (h : Q .non (upd H p (.lst (xs ++ [y])))) : rAppend (.ref p) [y] H Q := ⟨p, xs, y, rfl, rfl, h1, hz, h⟩
theorem v_insert {p : Addr} {xs : List V} {i : Int} {y : V} (h1 : H p = some (.lst xs)) (h0 : 0 ≤ i) (hi : i ≤ xs.length) (hz : xs.length < sizeLine) (h : Q .non (upd H p (.lst (insAt xs i.toNat y)))) : rInsert (.ref p) [.int i, y] H Q := ⟨p, xs, i, y, rfl, rfl, h1, h0, hi, hz, h⟩
end
end L2
namespace L2
open PySem PySem.Spec PyProof.Rows PySem.SeqAt
section
variable {prog : Program} {w : World} {A : Around} {E : Value → Shared → Prop} {s : Shared}
end
section
variable {X : Cx}
def rSetA : TSet := fun o i v H Q => rSetL o i v H Q ∨ ∃ a H', o = .ref a ∧ DPut H a i v H' ∧ Q H'
theorem set_any' (hu : X.A.units + 1 < cLine) : PSet X rSetA := by
  intro pins s σ H o i v ov iv u Q I ro ri rv h
  rcases h with h | ⟨a, H', rfl, g, q⟩
  · exact set_list pins s σ H o i v ov iv u Q I ro ri rv h
  · cases ro
    exact d_setItem hu I g ri rv fun s' I' => ⟨H', I', q⟩
def rIxA (K : PySem.W.Frag) : R2 := rIx K
theorem ix_any' (hu : X.A.units + 1 < cLine) : IxR X (rIxA X.K) := ix_seq
def rInD (neg : Bool) : R2 := fun x y H Q => ∃ a o, y = .ref a ∧ DGet H a x o ∧ Q (.bl (if neg then !o.isSome else o.isSome)) H
def rInB (K : PySem.W.Frag) (neg : Bool) : R2 := fun x y H Q => rInA K neg x y H Q ∨ rInD neg x y H Q
theorem op_inB (hu : X.A.units + 1 < cLine) : OpR X (compareOp .In) (rInB X.K false) := by
  refine op_inA.or ?_
  intro pins s σ H x y v u Q I rx ry h
  obtain ⟨a, o, rfl, g, q⟩ := h
  cases ry
  exact d_in hu I g rx fun s' I' => ⟨.bl o.isSome, H, I', rfl, q⟩
theorem m1 {o e : Expr} {m : Str} {apos cpos : Pos} (base : attributeBase o m X.env (eval o X.env) = eval o X.env := by rfl)
    (few : ((backTo cpos (starEach [e] X.env)).all (fun x => !x.1) && (backToKw cpos (keywordEach [] X.env)).all (fun x => x.1.isSome)
    && decide (([e] : List Expr).length + ([] : List Keyword).length + (if ([] : List Keyword).isEmpty then 0 else 1) < 30)) = true := by rfl) (line : (apos.endLine == cpos.line) = true := by rfl) (trees : backTo cpos (starEach [e] X.env) = [(false, eval e X.env)] := by rfl) : M1 X o m apos e cpos := ⟨base, few, line, trees⟩
def rIsi (K : PySem.W.Frag) : List V → Hp → VK → Prop := fun xs H Q => (∃ (x : V) (T : String) (t : Value) (b : Bool), xs = [x, .ty T] ∧ TyOf K H x t ∧ PySem.W.kitOne K t (.type T) = some b ∧ Q (.bl b) H) ∨
  ∃ (a : Addr) (ys : List V) (T : String) (b : Bool), xs = [.ref a, .ty T] ∧ SqT K H a ys ∧ PySem.W.kitOne K (.type "tuple") (.type T) = some b ∧ Q (.bl b) H
theorem call_isinstanceA : CallR X (.builtin "isinstance") (rIsi X.K) := by
  intro pins s σ H xs us Q I r h
  rcases h with ⟨x, T, t, b, rfl, ty, e, q⟩ | ⟨a, ys, T, b, rfl, hq, e, q⟩
  · obtain ⟨u, w', rfl, r1, r2⟩ := vals2 r
    cases r2
    exact wpAny_with_toks (n := 1) I.tk (isinst_ok I r1 ty e fun tk ht => ⟨.bl b, H, I.tok _ ht, rfl, q⟩)
  · obtain ⟨u, w', rfl, r1, r2⟩ := vals2 r
    cases r2
    cases r1
    obtain ⟨its, rv, pl, hz⟩ := I.tuple hq
    obtain ⟨o, h1, h2, _⟩ := pl
    exact wpAny_with_toks (n := 1) I.tk (PySem.W.kia_one PySem.W.kitx_tuple I.kIn ⟨o, h1, h2⟩ e (fun z => nomatch z) fun tk ht => ⟨.bl b, H, I.tok _ ht, rfl, q⟩)
theorem v_isi {K : PySem.W.Frag} {H : Hp} {Q : VK} {x : V} {T : String} {t : Value} {b : Bool} (ty : TyOf K H x t) (e : PySem.W.kitOne K t (.type T) = some b) (h : Q (.bl b) H) : rIsi K [x, .ty T] H Q := .inl ⟨x, T, t, b, rfl, ty, e, h⟩
theorem v_isiT {K : PySem.W.Frag} {H : Hp} {Q : VK} {a : Addr} {ys : List V} {T : String} {b : Bool} (hq : SqT K H a ys) (e : PySem.W.kitOne K (.type "tuple") (.type T) = some b) (h : Q (.bl b) H) : rIsi K [.ref a, .ty T] H Q := .inr ⟨a, ys, T, b, rfl, hq, e, h⟩
example (K : PySem.W.Frag) : PySem.W.kitOne K (.type "str") (.type "str") = some true := by rfl
example (K : PySem.W.Frag) : PySem.W.kitOne K (.type "bool") (.type "int") = some true := by rfl
example (K : PySem.W.Frag) : PySem.W.kitOne K (.type "int") (.type "bool") = some false := by rfl
example (K : PySem.W.Frag) : PySem.W.kitOne K (.type "list") (.type "list") = some true := by rfl
end
end L2
namespace L2
open PySem PySem.Spec PyProof.Rows PySem.SeqAt
section
variable {X : Cx} {pins : List (Addr × Obj)} {σ : List (Option V)} {H : Hp} {s : Shared} {h' : Heap}
theorem Inv.turnLaid {a : Addr} {o : HO} {t' : Nat} {ch : List Addr} (I : Inv X pins σ H s) (hf : ∀ b ∈ ch, FpOk X pins H b)
    (k : ∀ b u, b ∉ ch → s.heap.get? b = some u → h'.get? b = some u) (hp : s.heap.objs.size ≤ a) (new : ObjOk X.prog X.w (upd H a o) h' a o) (ht : 0 < t') :
    Inv X pins σ (upd H a o) { s with heap := h', toks := t' } := by
  have hn : H a = none := I.hok.fresh hp
  have nit : ∀ b u, H b = some u → b ∉ ch := fun b u e z => by rw [(hf b z).1] at e; cases e
  have up : ∀ {b : Addr} {u : HO}, H b = some u → upd H a o b = some u := fun {b u} e => by rw [upd_ne (ne_of_none e hn)]; exact e
  have neA : ∀ b u, s.heap.get? b = some u → b ≠ a := fun b u e => Nat.ne_of_lt (Nat.lt_of_lt_of_le (Heap.lt_size e) hp)
  refine I.step (g' := s.gens) (d' := s.drawn) (ch := ch) (fun b hb => ?_) (fun b u _ _ hc e _ => k b u hc e) (fun b u _ _ hc e _ => ⟨u.slots, k b u hc e⟩) (fun b u _ e n => by rw [upd_ne (neA b u e)]; exact n)
    (fun b u hc e => ⟨u, k b u hc e⟩) (fun _ _ e => up e) (fun _ _ _ e => up e) (fun b ps e => ⟨#[], by rw [up e]; simp⟩) (fun m hm => ?_) (fun b u e => ?_) I.bare ht
  · obtain ⟨f0, f1, f2, f3, f4, f5⟩ := hf b hb
    exact ⟨f3, f1, f4, f5⟩
  · obtain ⟨ob, es, ep, ho, r⟩ := hm
    exact ⟨ob, es, ep, k _ ob (fun z => (hf _ z).2.1 rfl) ho, r⟩
  · by_cases hb : b = a
    · subst hb; rw [upd_same] at e; cases e; exact new
    · rw [upd_ne hb] at e
      refine (I.hok b u e).stay (fun c v hc q => k c v ?_ q) (fun _ q => up q) fun _ _ q => up q
      rcases hc with z | z
      · rw [z]; exact nit b u e
      · exact nit c _ z
end
section
variable {X : Cx} {pins : List (Addr × Obj)} {σ : List (Option V)} {H : Hp} {s : Shared} {h' : Heap}
theorem Inv.turnedL {t' : Nat} {ch : List Addr} (I : Inv X pins σ H s) (hf : ∀ b ∈ ch, FpOk X pins H b) (k : ∀ b u, b ∉ ch → s.heap.get? b = some u → h'.get? b = some u) (ht : 0 < t') :
    Inv X pins σ H { s with heap := h', toks := t' } := by
  have nit : ∀ b u, H b = some u → b ∉ ch := fun b u e z => by rw [(hf b z).1] at e; cases e
  refine I.step (g' := s.gens) (d' := s.drawn) (ch := ch) (fun b hb => ?_) (fun b u _ _ hc e _ => k b u hc e) (fun b u _ _ hc e _ => ⟨u.slots, k b u hc e⟩) (fun _ _ _ _ n => n)
    (fun b u hc e => ⟨u, k b u hc e⟩) (fun _ _ e => e) (fun _ _ _ e => e) (fun b ps e => ⟨#[], by rw [e]; simp⟩) (fun m hm => ?_) (fun b u e => ?_) I.bare ht
  · obtain ⟨f0, f1, f2, f3, f4, f5⟩ := hf b hb
    exact ⟨f3, f1, f4, f5⟩
  · obtain ⟨ob, es, ep, ho, r⟩ := hm
    exact ⟨ob, es, ep, k _ ob (fun z => (hf _ z).2.1 rfl) ho, r⟩
  · refine (I.hok b u e).stay (fun c v hc q => k c v ?_ q) (fun _ q => q) fun _ _ q => q
    rcases hc with z | z
    · rw [z]; exact nit b u e
    · exact nit c _ z
end
def cutS (x : Str) (lo hi : Option Int) : Str := ⟨((x.cps.toList.drop (HT.sIx x.cps.toList.length 0 lo)).take (HT.sIx x.cps.toList.length x.cps.toList.length hi - HT.sIx x.cps.toList.length 0 lo)).toArray⟩
def rSlS : V → Option Int → Option Int → Hp → VK → Prop := fun x lo hi H Q => ∃ z, x = .str z ∧ z.length ≤ sizeLine ∧ Q (.str (cutS z lo hi)) H
theorem pick_cutS (x : Str) (lo hi : Option Int) : (⟨((Builtin.Str.strSliceIndices lo hi 1 x.length).filterMap (x.cps[·]?)).toArray⟩ : Str) = cutS x lo hi := by
  obtain ⟨h1, h2, h3⟩ := slice_bounds lo hi x.length
  have e : Builtin.Str.strSliceIndices lo hi 1 x.length = sliceRange (sliceBounds lo hi none x.length).1 (sliceBounds lo hi none x.length).2.1 (sliceBounds lo hi none x.length).2.2 := rfl
  rw [e, h1, h2, h3]
  unfold cutS
  rw [sliceRange_one, pick_run]
  rfl
theorem sIx_le (n d : Nat) (o : Option Int) (h : d ≤ n) : HT.sIx n d o ≤ n := by
  cases o with
  | none => exact h
  | some v =>
    show (if v < 0 then (v + (n : Int)).toNat else min v.toNat n) ≤ n
    split <;> omega
theorem sl_str {X : Cx} : SlR X rSlS := by
  intro pins s σ H x v vl vu lo hi sl Q I rx hs pl pu h
  obtain ⟨z, rfl, hz, q⟩ := h
  obtain ⟨t, rfl⟩ := rx
  refine ⟨"str", _, PySem.F.slot_str_getitem.lookup, typeIs_str _ _ _, ?_⟩
  have part : ∀ {v : Value} {k : Option Int}, IsPart v k → ∃ l : Option (Int × Tok), v = partValue l ∧ l.map (·.1) = k := fun {v k} h => by
    cases h with
    | none => exact ⟨none, rfl, rfl⟩
    | int i t => exact ⟨some (i, t), rfl, rfl⟩
  obtain ⟨l, rfl, el⟩ := part pl
  obtain ⟨u, rfl, eu⟩ := part pu
  refine wpAny_getItem_str_slice (l := l) (u := u) (st := none) hs rfl ?_
  have ep : slicePicked z l u none = Builtin.Str.strSliceIndices lo hi 1 z.length := by unfold slicePicked; rw [el, eu]; rfl
  have ec := pick_cutS z lo hi
  unfold sliceMade
  rw [ep]
  split
  · rename_i hc
    have hlen : (Builtin.Str.strSliceIndices lo hi 1 z.length).length = z.length := by simpa using hc
    have : cutS z lo hi = z := by
      obtain ⟨h1, h2, h3⟩ := slice_bounds lo hi z.length
      have e : Builtin.Str.strSliceIndices lo hi 1 z.length = sliceRange (sliceBounds lo hi none z.length).1 (sliceBounds lo hi none z.length).2.1 (sliceBounds lo hi none z.length).2.2 := rfl
      rw [e, h1, h2, h3, sliceRange_one, List.length_map, List.length_range] at hlen
      have hb := sIx_le z.length z.length hi (Nat.le_refl _)
      have el : z.cps.toList.length = z.length := Array.length_toList
      obtain ⟨⟨l⟩⟩ := z
      unfold cutS
      rw [el, hlen]
      by_cases h0 : HT.sIx (Str.length ⟨⟨l⟩⟩) 0 lo = 0
      · rw [h0, List.drop_zero, List.take_of_length_le (Nat.le_of_eq el)]
      · have : Str.length ⟨⟨l⟩⟩ = 0 := by omega
        rw [this, List.take_zero]
        have : l = [] := List.eq_nil_of_length_eq_zero (by rw [← this]; exact el.symm ▸ rfl)
        rw [this]
    rw [this] at q
    exact ⟨.str z, H, I, ⟨_, rfl⟩, q⟩
  · rw [ec]
    refine ⟨?_, .str _, H, I.tok _, ⟨_, rfl⟩, q⟩
    have : (cutS z lo hi).length ≤ z.length := by
      unfold cutS Str.length
      simp only [List.size_toArray, List.length_take, List.length_drop, Array.length_toList]
      omega
    omega
def rSlA (K : PySem.W.Frag) : V → Option Int → Option Int → Hp → VK → Prop := fun x lo hi H Q => rSlS x lo hi H Q ∨ rSlT K x lo hi H Q ∨ rSlL K x lo hi H Q
theorem sl_any {X : Cx} : SlR X (rSlA X.K) := sl_str.or (sl_tup.or sl_list)
section
variable {K : PySem.W.Frag} {σ : St} {H : Hp} {Q : VK}
theorem v_slL {a : Addr} {xs : List V} {lo hi : Option Int} (hx : SqL K H a xs) (h : ∀ p, H p = none → Q (.ref p) (upd H p (.lst (cutV xs lo hi)))) : rSlA K (.ref a) lo hi H Q := .inr (.inr ⟨a, xs, rfl, hx, h⟩)
theorem st_sl {r : V → Option Int → Option Int → Hp → VK → Prop} {te : TE} {tl th : TO} (h : te σ H fun x H1 => tl σ H1 fun l H2 => th σ H2 fun u H3 => r x l u H3 Q) : tSl r te tl th σ H Q := h
theorem st_part {t : TE} {R : Option Int → Hp → Prop} (h : t σ H fun x H1 => ∃ i, x = .int i ∧ R (some i) H1) : tPart t σ H R := h
theorem st_nopart {R : Option Int → Hp → Prop} (h : R none H) : tNoPart σ H R := h
theorem st_int {i : Int} {R : Int → Prop} (h : R i) : ∃ j, V.int i = .int j ∧ R j := ⟨i, rfl, h⟩
theorem v_eqS {x y : Str} (h : Q (.bl (decide (x = y))) H) : rEqA K (.str x) (.str y) H Q := by
  refine v_eq rfl ?_
  have e : (decide ((V.str x) = V.str y)) = decide (x = y) := by simp
  rw [e]; exact h
theorem v_neS {x y : Str} (h : Q (.bl (!decide (x = y))) H) : rNeA K (.str x) (.str y) H Q := by
  refine v_ne rfl ?_
  have e : (decide ((V.str x) = V.str y)) = decide (x = y) := by simp
  rw [e]; exact h
theorem v_eqI {x y : Int} (h : Q (.bl (decide (x = y))) H) : rEqA K (.int x) (.int y) H Q := by
  refine v_eq rfl ?_
  have e : (decide ((V.int x) = V.int y)) = decide (x = y) := by simp
  rw [e]; exact h
theorem v_neI {x y : Int} (h : Q (.bl (!decide (x = y))) H) : rNeA K (.int x) (.int y) H Q := by
  refine v_ne rfl ?_
  have e : (decide ((V.int x) = V.int y)) = decide (x = y) := by simp
  rw [e]; exact h
end
def tStrs (xs : List Str) : TA := fun _ H R => R (strV xs) H
theorem pa_s0 {X : Cx} : PA X [] (tStrs []) := pa_nil
theorem pa_s1 {X : Cx} {es : List Expr} {xs : List Str} {x : Str} {j : Nat} {p : Pos} (h : PA X es (tStrs xs)) : PA X (.Constant (.str x) j p :: es) (tStrs (x :: xs)) := pa_cons (te := tC (.str x)) pe_str h
theorem st_strs {σ : St} {H : Hp} {xs : List Str} {R : List V → Hp → Prop} (h : R (strV xs) H) : tStrs xs σ H R := h
end L2
namespace L2
open PySem PySem.Spec PyProof.Rows PySem.SeqAt PySem.Builtin PySem.Builtin.Str
section
variable {X : Cx}
theorem blVals : ∀ {bs : List Bool} {us : List Value}, Vals (bs.map V.bl) us → us = bs.map Value.bool
  | [], _, h => by cases h; rfl
  | b :: bs, _, h => by
    have h : Vals (V.bl b :: bs.map V.bl) _ := h
    cases h with
    | cons r t => rw [blVals t]; cases (show _ = Value.bool b from r); rfl
theorem range_any (bs : List Bool) : (List.range bs.length).any (fun i => (bs[i]?).getD false) = bs.any id := by
  rw [Bool.eq_iff_iff, List.any_eq_true, List.any_eq_true]
  constructor
  · rintro ⟨i, hi, h⟩
    have hi := List.mem_range.mp hi
    rw [List.getElem?_eq_getElem hi] at h
    exact ⟨_, List.getElem_mem hi, h⟩
  · rintro ⟨b, hb, h⟩
    obtain ⟨i, hi, e⟩ := List.getElem_of_mem hb
    exact ⟨i, List.mem_range.mpr hi, by rw [List.getElem?_eq_getElem hi, e]; exact h⟩
def r_any (K : PySem.W.Frag) : List V → Hp → VK → Prop := fun xs H Q => ∃ (p : Addr) (bs : List Bool), xs = [.ref p] ∧ SqL K H p (bs.map V.bl) ∧ Q (.bl (bs.any id)) H
theorem call_anyA (hc : X.calm = true) : CallR X (.builtin "any") (r_any X.K) := by
  intro pins s σ H xs us Q I r h
  obtain ⟨p, bs, rfl, hq, q⟩ := h
  obtain ⟨u, rfl, ru⟩ := vals1 r
  cases ru
  obtain ⟨its, rv, pl, hz⟩ := I.list hq
  have ei := blVals rv
  subst ei
  refine wpAny_with_toks (n := 1) I.tk (call_any_walk (wpAny_pyIter_list pl.isList ?_))
  have ne : p ≠ s.heap.objs.size := Nat.ne_of_lt (by obtain ⟨o, e, _⟩ := pl.isList; exact Heap.lt_size e)
  refine ⟨_, _, _, _, _, _, fun i => (bs[i]?).getD false, rfl, Walks.list (show X.A.in1.handled = none from I.ok.hd hc) s.heap.objs.size p ne _, ⟨⟨_, Heap.get?_push_size _ rfl, rfl, rfl⟩, pl.isList.at fun o e => Heap.get?_push_of_some _ e⟩, ?_, fun h' tk hk ht => ?_⟩
  · intro i v s Q E hP hQ
    have hP : (bs.map Value.bool)[i]? = some v := by simpa using hP
    rw [List.getElem?_map] at hP
    obtain ⟨b, hb, rfl⟩ := Option.map_eq_some_iff.mp hP
    have hQ : Q ((bs[i]?).getD false) s := hQ
    rw [hb] at hQ
    exact wpAny_pure hQ
  · refine ⟨.bl (bs.any id), H, I.kept (fun b o e => hk b o ?_ (Heap.get?_push_of_some _ e)) ht, ?_, q⟩
    · intro z
      have : b = s.heap.objs.size := by simpa using z
      exact absurd (Heap.lt_size e) (by rw [this]; exact Nat.lt_irrefl _)
    · show Value.bool _ = Value.bool _
      rw [← range_any bs]
      congr 2
      simp
section
variable {K : PySem.W.Frag} {σ : St} {H : Hp} {Q : VK}
theorem v_any {p : Addr} {bs : List Bool} (h : SqL K H p (bs.map V.bl)) (q : Q (.bl (bs.any id)) H) : r_any K [.ref p] H Q := ⟨p, bs, rfl, h, q⟩
end
end
end L2
namespace L2
open PySem PySem.Spec PyProof.Rows PySem.SeqAt
theorem range_rev (n : Nat) : ((List.range n).map fun (k : Nat) => ((n : Int) - 1 + -1 * (k : Int)).toNat) = (List.range n).reverse := by
  apply List.ext_getElem
  · simp
  · intro i h1 h2
    simp only [List.getElem_map, List.getElem_range, List.getElem_reverse, List.length_range]
    simp only [List.length_map, List.length_range] at h1
    omega
theorem pick_range {α : Type} (xs : List α) : (List.range xs.length).filterMap (xs[·]?) = xs := by
  induction xs with
  | nil => rfl
  | cons x xs ih =>
    rw [List.length_cons, List.range_succ_eq_map, List.filterMap_cons, List.filterMap_map]
    show x :: _ = _
    congr 1
theorem slicePick_rev (items : List Value) : slicePick items.toArray none none (some (-1)) = items.reverse.toArray := by
  unfold slicePick sliceBounds sliceRange
  simp only [Option.getD_some, List.size_toArray]
  have h : ¬ ((-1 : Int) > 0) := by decide
  simp only [if_neg h]
  have ec : (if (items.length : Int) - 1 > -1 then ((items.length : Int) - 1 - -1 - -1 - 1) / (- -1) else 0).toNat = items.length := by
    by_cases h0 : (items.length : Int) - 1 > -1
    · rw [if_pos h0]
      have : (- -1 : Int) = 1 := by decide
      rw [this, Int.ediv_one]; omega
    · rw [if_neg h0]; omega
  rw [ec, range_rev, List.filterMap_reverse]
  congr 2
  have : (fun (x : Nat) => (items.toArray)[x]?) = fun (x : Nat) => items[x]? := by funext x; simp
  rw [this, pick_range]
section
variable {X : Cx}
def tRev3 (K : PySem.W.Frag) (te : TE) : TE := fun σ H Q => te σ H fun x H1 => ∃ a xs, x = .ref a ∧ SqL K H1 a xs ∧ ∀ p, H1 p = none → Q (.ref p) (upd H1 p (.lst xs.reverse))
theorem pe_rev3 {e k : Expr} {te : TE} {p2 pos : Pos} (he : PE X e te) (hk : PE X k (tUn (rU fun i => .int (-i)) (tC (.int 1)))) : PE X (.Subscript e (.Slice none none (some k) p2) pos) (tRev3 X.K te) := by
  intro pins s σ H Q I h
  refine Subscript_ (thn (he pins s σ H _ I h) fun v s1 ⟨x, H1, I1, r1, q1⟩ => ?_)
  obtain ⟨a, xs, rfl, hx, q⟩ := q1
  refine wpAny_Slice ?_
  rw [evalPart_none]
  refine wpAny_pure (wpAny_pure ?_)
  rw [evalPart_some]
  refine thn (hk pins s1 σ H1 (fun y H2 => y = .int (-1) ∧ H2 = H1) I1 ⟨1, rfl, rfl, rfl⟩) fun vk s2 ⟨y, H2, I2, r2, ey, eH⟩ => ?_
  subst ey
  subst eH
  obtain ⟨tk, rfl⟩ := r2
  have I4 : Inv X pins σ H2 { s2 with heap := s2.heap.push { cls := .type "slice", data := .fields #[.none, .none, .int (-1) tk] } } := I2.kept (t' := s2.toks) fun b ob q => Heap.get?_push_of_some _ q
  cases r1
  obtain ⟨its, r, ht, hz⟩ := I4.list hx
  have hlen := r.length
  refine tail_any (ops := [.ref a, .ref s2.heap.objs.size]) ht.isList.typeIs slot_list_getitem.lookup ?_ (by with_unfolding_all rfl)
  refine wpAny_getItem_list_slice ht.isList (Heap.IsSliceOf.new ..) .none .none (.int (-1) tk) (by simp) ?_ (by rw [List.size_toArray] <;> omega)
  rw [slicePick_rev]
  refine ⟨.ref _, _, I4.laid (t' := s2.toks) (o := .lst xs.reverse) (fun b ob q => Heap.get?_push_of_some _ q) (Nat.le_refl _) ?_, rfl, q _ (I4.hok.fresh (Nat.le_refl _))⟩
  exact ⟨by rw [List.length_reverse]; exact hz, _, 0, Vals.reverse r, Heap.get?_push_size _ rfl⟩
end
section
variable {σ : St} {H : Hp} {Q : VK} {K : PySem.W.Frag}
theorem st_rev3 {te : TE} (h : te σ H fun x H1 => ∃ a xs, x = .ref a ∧ SqL K H1 a xs ∧ ∀ p, H1 p = none → Q (.ref p) (upd H1 p (.lst xs.reverse))) : tRev3 K te σ H Q := h
theorem st_bm0 {T : String} {r : V → List V → Hp → VK → Prop} {to : TE} (h : to σ H fun x H1 => tyV K T x H1 ∧ r x [] H1 Q) : tBM0 K T r to σ H Q := h
theorem v_pop {p : Addr} {xs : List V} {y : V} (h1 : H p = some (.lst (xs ++ [y]))) (h : Q y (upd H p (.lst xs))) : rPop (.ref p) [] H Q :=
  ⟨p, xs ++ [y], y, rfl, rfl, h1, by simp, by rw [List.dropLast_concat]; exact h⟩
end
section
variable {prog : Program} {w : World} {A : Around} {E : Value → Shared → Prop} {s : Shared}
theorem getItem_tuple_whole {t sl : Addr} {items : Array Value} {vl vu : Value} {lo hi : Option Int} {Q : Value → Shared → Prop} (ht : IsTup s.heap t items) (hs : s.heap.IsSliceOf sl vl vu .none) (pl : IsPart vl lo) (pu : IsPart vu hi)
    (hw : HT.sIx items.size 0 lo = 0 ∧ HT.sIx items.size items.size hi = items.size) (h : Q (.ref t) s) : wpAny (model prog w) A (getItem (.ref t) (.ref sl)) Q E s := by
  obtain ⟨os, hos, hcs, hds⟩ := id hs
  have hTs : s.TypeIs (.ref sl) "slice" := ⟨os, hos, hcs⟩
  unfold getItem
  try with_reducible refine wpAny_holding ?_
  first | refine wpAny_bind (wpAny_pure ?_) | skip
  refine wpAny_bind (wpAny_sequenceKey ht.typeIs (by decide) ?_)
  refine wpAny_bind (wpAny_callSpecial?_slot (name := Str.ofString "__getitem__") ht.typeIs PyProof.Rows.slot_tuple_getitem
    (wpAny_call_entry PyProof.Rows.slot_tuple_getitem ht.typeIs entry_tuple_getitem ?_ (args_tuple_getitem _ _)))
  show wpAny _ _ (Builtin.Tuple.tupleItemsOf (.ref t) >>= _) _ _ s
  refine wpAny_bind (tupleItemsOf_ ht ?_)
  refine wpAny_bind (wpAny_typeOf hTs ?_)
  rw [if_pos (by decide)]
  refine wpAny_bind (HT.sliceApplied_gen hs pl pu ?_)
  have hyes : ((((HT.sIx items.size 0 lo : Nat) : Int) == 0 && (1 : Int) == 1 && (HT.sIx items.size items.size hi - HT.sIx items.size 0 lo) == items.size) = true) := by
    rw [hw.1, hw.2]; simp
  show wpAny _ _ (if (((HT.sIx items.size 0 lo : Nat) : Int) == 0 && (1 : Int) == 1 && (HT.sIx items.size items.size hi - HT.sIx items.size 0 lo) == items.size) = true then _ else _) _ _ s
  rw [if_pos hyes]
  refine wpAny_bind (m := Builtin.Tuple.tupleIsExact (.ref t)) ?_
  unfold Builtin.Tuple.tupleIsExact
  refine wpAny_bind (wpAny_typeOf ht.typeIs (wpAny_pure ?_))
  rw [if_pos (by decide)]
  first
    | exact wpAny_bind (wpAny_rule (wpAny_bind (wpAny_pure ⟨_, rfl, wpAny_pure h⟩)))
    | exact wpAny_bind (wpAny_rule (wpAny_pure ⟨_, rfl, wpAny_pure h⟩))
    | exact wpAny_bind (wpAny_rule (wpAny_pure (wpAny_pure ⟨_, rfl, wpAny_pure h⟩)))
end
section
variable {X : Cx}
def rSlW (K : PySem.W.Frag) : V → Option Int → Option Int → Hp → VK → Prop := fun x lo hi H Q => ∃ a xs, x = .ref a ∧ SqT K H a xs ∧ (HT.sIx xs.length 0 lo = 0 ∧ HT.sIx xs.length xs.length hi = xs.length) ∧ Q (.ref a) H
theorem sl_tupW : SlR X (rSlW X.K) := by
  intro pins s σ H x v vl vu lo hi sl Q I rx hs pl pu h
  obtain ⟨a, xs, rfl, hx, hw, q⟩ := h
  cases rx
  obtain ⟨its, r, ht, hz⟩ := I.tuple hx
  have hlen : its.toArray.size = xs.length := by rw [List.size_toArray]; exact r.length.symm
  refine ⟨"tuple", _, PyProof.Rows.slot_tuple_getitem.lookup, ht.typeIs, ?_⟩
  exact getItem_tuple_whole ht hs pl pu (by rw [hlen]; exact hw) ⟨.ref a, H, I, rfl, q⟩
def rSlB (K : PySem.W.Frag) : V → Option Int → Option Int → Hp → VK → Prop := fun x lo hi H Q => rSlA K x lo hi H Q ∨ rSlW K x lo hi H Q
theorem sl_anyB : SlR X (rSlB X.K) := sl_any.or sl_tupW
def rCat0 (K : PySem.W.Frag) : R2 := fun x y H Q => ∃ a b ys, x = .ref a ∧ y = .ref b ∧ SqT K H a [] ∧ SqT K H b ys ∧ Q (.ref b) H
theorem op_cat0 : OpR X (binaryOp .Add) (rCat0 X.K) := by
  intro pins s σ H x y v u Q I rx ry h
  obtain ⟨a, b, ys, rfl, rfl, ha, hb, q⟩ := h
  cases rx
  cases ry
  obtain ⟨its, r1, p1, _⟩ := I.tuple ha
  obtain ⟨its2, r2, p2, _⟩ := I.tuple hb
  cases r1
  obtain ⟨⟨cls, dd, data, sl⟩, ho, hc, n, hd⟩ := id p1
  obtain ⟨⟨cls2, dd2, data2, sl2⟩, ho2, hc2, n2, hd2⟩ := id p2
  simp only at hc hd hc2 hd2
  subst hc hd hc2 hd2
  exact concat_meets ⟨_, ho, rfl⟩ ⟨_, ho2, rfl⟩ noFill_tuple_add seq_tuple_add PySem.F.slot_tuple_add PySem.F.entry_tuple_add (PySem.F.args_tuple_add_2 _ _)
      (tuple_addW0 a b _ its2.toArray n n2 dd dd2 sl sl2 (by simp)) ⟨ho, ho2, ⟨.ref b, H, I, rfl, q⟩⟩
def rAddB (K : PySem.W.Frag) : R2 := fun x y H Q => rAddA K x y H Q ∨ rCat0 K x y H Q
theorem op_addB : OpR X (binaryOp .Add) (rAddB X.K) := op_addA.or op_cat0
end
section
variable {H : Hp} {Q : VK} {K : PySem.W.Frag}
theorem v_catT {a b : Addr} {xs ys : List V} (h1 : SqT K H a xs) (h2 : SqT K H b ys) (hz : xs.length + ys.length ≤ sizeLine) (h : ∀ p H', Same H H' → SqT K H' p (xs ++ ys) → Q (.ref p) H') : rAddB K (.ref a) (.ref b) H Q := by
  by_cases hx : xs = []
  · subst hx
    exact .inr ⟨a, b, ys, rfl, rfl, h1, h2, h b H (fun _ _ e => e) h2⟩
  · refine .inl (.inr (.inr (.inr ⟨a, b, xs, ys, rfl, rfl, h1, h2, hx, hz, fun hy => ?_, fun hy p hp => h p _ (Same.new hp _) (SqT.of upd_same)⟩)))
    subst hy
    exact h a H (fun _ _ e => e) (by rw [List.append_nil]; exact h1)
theorem v_slT {a : Addr} {xs : List V} {lo hi : Option Int} (h1 : SqT K H a xs) (h : ∀ p H', Same H H' → SqT K H' p (cutV xs lo hi) → Q (.ref p) H') : rSlB K (.ref a) lo hi H Q := by
  by_cases hw : HT.sIx xs.length 0 lo = 0 ∧ HT.sIx xs.length xs.length hi = xs.length
  · refine .inr ⟨a, xs, rfl, h1, hw, h a H (fun _ _ e => e) ?_⟩
    unfold cutV
    rw [hw.1, hw.2, List.drop_zero, Nat.sub_zero, List.take_length]; exact h1
  · exact .inl (.inr (.inl ⟨a, xs, rfl, h1, hw, fun p hp => h p _ (Same.new hp _) (SqT.of upd_same)⟩))
end
section
variable {σ : St} {H : Hp}
end
section
variable {prog : Program} {w : World} {A : Around} {E : Value → Shared → Prop} {s : Shared}
theorem nextOf_tuple_item {it l : Addr} {i : Nat} {items} {x : Value} {Q : Value → Shared → Prop} (hit : s.heap.IsTupleIter it l i) (hl : s.heap.IsTuple l items) (hx : items[i]? = some x)
    (hQ : ∀ h', h'.IsTupleIter it l (i + 1) → Heap.SameBut it s.heap h' → Q x { s with heap := h' }) :
    wpAny (model prog w) A (Builtin.SmallTypes.nextOf (.ref it)) Q E s := by
  obtain ⟨o, ho, hc, hd⟩ := id hit
  obtain ⟨ol, hol, _, nl, hdl⟩ := hl
  unfold Builtin.SmallTypes.nextOf
  refine wpAny_bind (wpAny_callSpecial?_slot (name := Str.ofString "__next__") hit.typeIs F.slot_tuple_iterator_next
    (wpAny_call_entry F.slot_tuple_iterator_next hit.typeIs F.entry_tuple_iterator_next ?_ (F.args_tuple_iterator_next_1 _)))
  show wpAny _ _ (field (.ref it) 0 >>= _) _ _ s
  refine wpAny_bind (wpAny_field ho hd (x := .ref l) rfl ?_)
  show wpAny _ _ (if (Value.ref l == Value.none) = true then _ else _) _ _ s
  rw [if_neg (show ¬ ((Value.ref l == Value.none) = true) from Bool.false_ne_true)]
  show wpAny _ _ (field (.ref it) 1 >>= _) _ _ s
  refine wpAny_bind (wpAny_field ho hd (x := .int i 0) rfl ?_)
  show wpAny _ _ (seqItems? (.ref l) >>= _) _ _ s
  refine wpAny_bind (wpAny_seqItems hol hdl ?_)
  simp only [Int.toNat_natCast, hx]
  refine wpAny_bind (wpAny_setField ho hd (by simp) (wpAny_pure ⟨x, rfl, wpAny_pure (hQ _ ?_ (Heap.SameBut.update ..))⟩))
  exact ⟨_, Heap.get?_update_self _ ho (Obj.isFreed_of_fields (Obj.data_mapFields hd _)), (Obj.cls_mapFields ..).trans hc, by
    rw [Obj.data_mapFields hd]; simp [rawInt]⟩
theorem nextOf_tuple_end {it l : Addr} {i : Nat} {items} {Q : Value → Shared → Prop} (hh : A.handled = none) (hit : s.heap.IsTupleIter it l i) (hl : s.heap.IsTuple l items) (hx : items[i]? = none)
    (hE : ∀ h' e, Heap.ExtBut it s.heap h' → (∃ o, h'.get? e = some o ∧ o.cls = .type "StopIteration") → E (.ref e) { s with heap := h' }) :
    wpAny (model prog w) A (Builtin.SmallTypes.nextOf (.ref it)) Q E s := by
  obtain ⟨o, ho, hc, hd⟩ := id hit
  obtain ⟨ol, hol, _, nl, hdl⟩ := hl
  unfold Builtin.SmallTypes.nextOf
  refine wpAny_bind (wpAny_callSpecial?_slot (name := Str.ofString "__next__") hit.typeIs F.slot_tuple_iterator_next
    (wpAny_call_entry F.slot_tuple_iterator_next hit.typeIs F.entry_tuple_iterator_next ?_ (F.args_tuple_iterator_next_1 _)))
  show wpAny _ _ (field (.ref it) 0 >>= _) _ _ s
  refine wpAny_bind (wpAny_field ho hd (x := .ref l) rfl ?_)
  show wpAny _ _ (if (Value.ref l == Value.none) = true then _ else _) _ _ s
  rw [if_neg (show ¬ ((Value.ref l == Value.none) = true) from Bool.false_ne_true)]
  show wpAny _ _ (field (.ref it) 1 >>= _) _ _ s
  refine wpAny_bind (wpAny_field ho hd (x := .int i 0) rfl ?_)
  show wpAny _ _ (seqItems? (.ref l) >>= _) _ _ s
  refine wpAny_bind (wpAny_seqItems hol hdl ?_)
  simp only [Int.toNat_natCast, hx]
  refine wpAny_bind (wpAny_rule (wpAny_bind (wpAny_setField ho hd (by simp) ?_)))
  show wpAny _ _ (newExc (.type "StopIteration") [] >>= _) _ _ _
  refine wpAny_bind ?_
  simp only [newExc, newTuple]
  refine wpAny_bind (wpAny_newObj_type ?_ (by size_fits))
  refine wpAny_bind (m := firstArgMember _ _) (wpAny_of_eq (a := Value.none) (by first | rfl | (simp only [firstArgMember]; rfl)) ?_)
  refine wpAny_newObj_type ?_ (by size_fits)
  simp only [raiseNew]
  refine wpAny_bind (wpAny_handled ?_)
  first | rw [show A.in1.handled = none from hh] | rw [hh]
  refine wpAny_bind (wpAny_pure (wpAny_throw ?_))
  exact hE _ _ (((Heap.SameBut.update ..).extBut.push _).push _) ⟨_, Heap.get?_push_size _ rfl, rfl⟩
end
theorem draws_tuple {prog : Program} {w : World} {A : Around} (hh : A.handled = none) (it l : Addr) (hne : l ≠ it) (items : Array Value) :
    Draws prog w A it [it, l] items.size (fun i v => items[i]? = some v) (fun i h => h.IsTupleIter it l i ∧ h.IsTuple l items) where
  live := fun _ _ st => let ⟨o, ho, _⟩ := st.1; ⟨o, ho⟩
  frame := fun _ _ _ st hk => ⟨st.1.at fun o e => hk it (by simp) o e, st.2.at fun o e => hk l (by simp) o e⟩
  item := fun i s Q E hi st hQ => by
    refine nextOf_tuple_item st.1 st.2 (x := items[i]) (by simp [hi]) fun h' hit' hs' => ?_
    exact hQ _ h' s.toks (by simp [hi]) ⟨hit', st.2.extBut hs'.extBut hne⟩ hs'
  done := fun s Q E st hE => nextOf_tuple_end hh st.1 st.2 (by simp) hE
set_option maxHeartbeats 1000000 in
theorem meets_enumerate_newT (l : Addr) (items : Array Value) (n : Nat) (dct : Option Addr) (sl : Array (Option Value)) :
    Meets (Builtin.«enumerate.__new__» ⟨[.type "enumerate", .ref l], []⟩) (fun _ R s => s.heap.get? l = some { cls := .type "tuple", dict := dct, data := .seq items n, slots := sl } ∧
      R (.ok (.ret (.ref (s.heap.push { cls := .type "tuple_iterator", data := .fields #[.ref l, .int 0 0] }).objs.size)))
        { s with heap := (s.heap.push { cls := .type "tuple_iterator", data := .fields #[.ref l, .int 0 0] }).push { cls := .type "enumerate", data := .fields #[.none, .bool false, .ref s.heap.objs.size, rawInt 0, .none, .none] } }) :=
  .of_wp fun prog w A R s h => by
    obtain ⟨hp, g, d, tk, os⟩ := s; obtain ⟨hl, h⟩ := h
    have hsub := sub_enumerate
    have hL : Heap.IsTuple (Shared.heap ⟨hp, g, d, tk, os⟩) l items := ⟨_, hl, rfl, n, rfl⟩
    wp_walk using AutoSeq1.wpAny_loadPart' hl
    refine wpAny_stack_any fun st => wpAny_pure ?_
    split
    · rename_i c _ _ _ _ _
      cases (c == Value.type "enumerate")
      · wp_walk using AutoSeq1.wpAny_loadPart' hl, wpAny_pyIter_tuple hL
        exact ⟨_, rfl, h⟩
      · wp_walk using AutoSeq1.wpAny_loadPart' hl, wpAny_pyIter_tuple hL
        exact ⟨_, rfl, h⟩
    · wp_walk using AutoSeq1.wpAny_loadPart' hl, wpAny_pyIter_tuple hL
      exact ⟨_, rfl, h⟩
theorem call_enumerate_tuple {prog : Program} {w : World} {A : Around} {E : Value → Shared → Prop} {s : Shared} {l : Addr} {items : Array Value} {Q : Value → Shared → Prop} (hL : s.heap.IsTuple l items)
    (h : ∀ h', IsEnum h' (s.heap.objs.size + 1) s.heap.objs.size 0 .none → h'.IsTupleIter s.heap.objs.size l 0 → h'.objs.size = s.heap.objs.size + 2 →
      (∀ b o, s.heap.get? b = some o → h'.get? b = some o) → Q (.ref (s.heap.objs.size + 1)) { s with heap := h' }) :
    wpAny (model prog w) A (call (.type "enumerate") [.ref l]) Q E s := by
  obtain ⟨⟨c, dct, dt, sl⟩, hl, hc, n, hd⟩ := hL
  replace hc : c = .type "tuple" := hc
  replace hd : dt = .seq items n := hd
  subst hc hd
  refine callType_new F.called_enumerate (by decide) (F.typeCall_enumerate_1 _) (F.newCall_enumerate_1 _) (fun obj => F.args_object_init_2 obj _) F.entry_enumerate_new
    (meets_enumerate_newT l items n dct sl) ⟨hl, ?_⟩
  have hz : (s.heap.push { cls := .type "tuple_iterator", data := .fields #[.ref l, .int 0 0] }).objs.size = s.heap.objs.size + 1 := Heap.size_push ..
  show _ ∧ _
  rw [hz]
  have he : IsEnum ((s.heap.push { cls := .type "tuple_iterator", data := .fields #[.ref l, .int 0 0] }).push
      { cls := .type "enumerate", data := .fields #[.none, .bool false, .ref s.heap.objs.size, rawInt 0, .none, .none] }) (s.heap.objs.size + 1) s.heap.objs.size 0 .none := by
    have := Heap.get?_push_size (s.heap.push { cls := .type "tuple_iterator", data := .fields #[.ref l, .int 0 0] })
      (o := { cls := .type "enumerate", data := .fields #[.none, .bool false, .ref s.heap.objs.size, rawInt 0, .none, .none] }) rfl
    rw [hz] at this; exact this
  refine ⟨⟨_, he, rfl⟩, h _ he ⟨_, Heap.get?_push_of_some _ (Heap.get?_push_size _ rfl), rfl, rfl⟩ (by rw [Heap.size_push, hz]) fun b o y => Heap.get?_push_of_some _ (Heap.get?_push_of_some _ y)⟩
def Ite (K : PySem.W.Frag) (a : Addr) : It := ⟨fun i H => ∃ xs x, SqT K H a xs ∧ xs[i]? = some x, fun i H x H' => ∃ p y, x = .ref p ∧ H p = none ∧ (∀ xs, SqT K H a xs → xs[i]? = some y) ∧ H' = upd H p (.tup [.int i, y]), fun i H => ∃ xs, SqT K H a xs ∧ xs.length ≤ i⟩
theorem turn_enumT {P : Program} {w : World} {K : PySem.W.Frag} {elts : List Expr} {k : Nat} {pos : Pos} (a e it : Addr) (hei : e ≠ it) :
    Turn P w K (.Tuple elts k pos) (Ite K a) [e, it] e (fun i h => (∃ old, IsEnum h e it i old) ∧ h.IsTupleIter it a i) where
  mem := by simp
  obj := by
    rintro i h ⟨⟨old, e1⟩, o2, e2, _, d2⟩ b hb
    have hb : b = e ∨ b = it := by simpa using hb
    rcases hb with rfl | rfl
    · exact ⟨_, e1, fun v z => by cases (show Data.fields _ = Data.cell v from z)⟩
    · exact ⟨_, e2, fun v z => by rw [d2] at z; cases z⟩
  keep := fun i h h' st kk => ⟨let ⟨old, e1⟩ := st.1; ⟨old, kk e (by simp) _ e1⟩, st.2.at fun o q => kk it (by simp) o q⟩
  item := by
    intro X hP hw hK hc i pins s σ H E I hf st hg
    subst hP hw hK
    obtain ⟨xs, x, hq, hx⟩ := hg
    obtain ⟨its, rv, p, hz⟩ := I.tuple hq
    obtain ⟨u, hu, ru⟩ := rv.get hx
    have hil : i < its.toArray.size := by rw [List.size_toArray]; exact (List.getElem?_eq_some_iff.mp hu).1
    have pT : s.heap.IsTuple a its.toArray := p
    have nea : a ≠ it := fun z => by
      obtain ⟨o1, h1, c1, _⟩ := pT
      obtain ⟨o2, h2, c2, _⟩ := st.2
      rw [z, h2] at h1
      cases h1
      rw [c1] at c2
      exact absurd c2 (by decide)
    have nee : e ≠ a := fun z => by
      obtain ⟨o1, h1, c1, _⟩ := pT
      obtain ⟨old, h2⟩ := st.1
      rw [← z] at h1
      have h2 : s.heap.get? e = some _ := h2
      rw [h2] at h1
      cases h1
      exact absurd c1 (show ¬ (Value.type "enumerate" = Value.type "tuple") by decide)
    have W := WalksT.enumerateD (prog := X.prog) (w := X.w) (A := X.A) (draws_tuple (A := X.A.in1) (show X.A.in1.handled = none from I.ok.hd hc) it a nea its.toArray) e hei (by simp [hei, nee]) (by simp)
    refine wpAny_with_toks (n := 1) I.tk (W.item i s _ _ hil ⟨st.1, st.2, pT⟩ fun T vs h' tk hv hT htup hmid kk ht => ?_)
    have ht : 0 < tk := ht
    obtain ⟨tk1, y, hy, rfl⟩ := hv
    have hy : its[i]? = some y := by simpa using hy
    rw [hu] at hy
    injection hy with hy
    subst hy
    have hap := W.apart i T h' hmid
    refine ⟨_, rfl, W.go elts k pos i T { s with heap := h', toks := tk } _ _ hmid fun h2 st2 k2 => ?_⟩
    have htup2 : IsTup h2 T [Value.int i tk1, u].toArray := by
      obtain ⟨o, e, c⟩ := htup
      exact ⟨o, k2 T o hap e, by simpa using c⟩
    have I1 : Inv X pins σ (upd H T (.tup [.int i, x])) { s with heap := h2, toks := tk } := I.turnLaid (ch := [e, it]) (fun b hb => hf b hb) (fun b u hb e => k2 b u hb (kk b u hb e)) hT ⟨by rw [sizeLine_eq]; simp, [Value.int i tk1, u], .cons ⟨tk1, rfl⟩ (.cons ru .nil), htup2⟩ ht
    refine ⟨.ref T, _, I1, rfl, ⟨T, x, rfl, I.hok.fresh hT, fun ys hy => by rw [I.tuple_inj hy hq]; exact hx, rfl⟩, ⟨st2.1, st2.2.1⟩, fun b hb => ?_⟩
    have hb2 : ∃ o, s.heap.get? b = some o := by
      have hb : b = e ∨ b = it := by simpa using hb
      rcases hb with rfl | rfl
      · obtain ⟨old, e1⟩ := st.1; exact ⟨_, e1⟩
      · obtain ⟨o, e1, _⟩ := st.2; exact ⟨_, e1⟩
    obtain ⟨o, e⟩ := hb2
    rw [upd_ne (Nat.ne_of_lt (Nat.lt_of_lt_of_le (Heap.lt_size e) hT))]
    exact (hf b hb).1
  done := by
    intro X hP hw hK hc i pins s σ H E I hf st hg
    subst hP hw hK
    obtain ⟨xs, hq, hx⟩ := hg
    obtain ⟨its, rv, p, hz⟩ := I.tuple hq
    have pT : s.heap.IsTuple a its.toArray := p
    have hno : its.toArray[i]? = none := by
      have := rv.length
      simp; omega
    obtain ⟨old, he⟩ := st.1
    have D : Draws X.prog X.w X.A.in1 it [it, a] 0 (fun _ _ => True) (fun _ h => h.IsTupleIter it a i ∧ h.IsTuple a its.toArray) :=
      { live := fun _ _ st => let ⟨o, ho, _⟩ := st.1; ⟨o, ho⟩
        frame := fun _ _ _ st hk => ⟨st.1.at fun o e => hk it (by simp) o e, st.2.at fun o e => hk a (by simp) o e⟩
        item := fun j s Q E hj => absurd hj (Nat.not_lt_zero _)
        done := fun s Q E st hE => nextOf_tuple_end (show X.A.in1.handled = none from I.ok.hd hc) st.1 st.2 hno hE }
    exact wpAny_pyNext_enum_endD D he ⟨st.2, pT⟩ fun h' hx => ⟨rfl, I.turnedL (ch := [e, it]) (t' := s.toks) (fun b hb => hf b hb) (fun b o hb y => hx b o (fun z => hb (by simp [z])) y) I.tk⟩
  self := fun A i s Q E st h => let ⟨old, e1⟩ := st.1; wpAny_pyIter_enum e1 h
def iEnumT (K : PySem.W.Frag) (ta : TA) : TI := fun σ H R => ta σ H fun vs H1 => ∃ a xs, vs = [.ref a] ∧ SqT K H1 a xs ∧ R (Ite K a) H1
theorem pi_enumT {X : Cx} {elts : List Expr} {k : Nat} {tpos p pos : Pos} {l : Expr} {ta : TA} (hg : Gl X "enumerate") (hm : X.mg "enumerate" = none) (ha : PA X [l] ta) (hs : starEach [l] X.env = [(false, eval l X.env)] := by rfl) :
    PI X (.Tuple elts k tpos) (.Call (.Name "enumerate" p) [l] [] pos) (iEnumT X.K ta) := by
  intro pins s σ H R I h
  refine Call_ (ld_blt I hg hm boot_enumerate (PyProof.Rows.callWith_type1 (thn (ha pos pins s σ H _ I h) fun us s1 ⟨vs, H1, I1, r1, q1⟩ => ?_) hs rfl))
  obtain ⟨a, xs, e, hq, q⟩ := q1
  subst e
  obtain ⟨v, rfl, rv⟩ := vals1 r1
  cases rv
  obtain ⟨its, rv, pT, hz⟩ := I1.tuple hq
  refine call_enumerate_tuple (show s1.heap.IsTuple a its.toArray from pT) fun h' he hit hz hk => ?_
  have I2 : Inv X pins σ H1 { s1 with heap := h' } := I1.kept (t' := s1.toks) hk
  refine wpAny_pyIter_enum he ?_
  have ne : s1.heap.objs.size + 1 ≠ s1.heap.objs.size := by omega
  refine ⟨s1.heap.objs.size + 1, _, _, _, H1, rfl, I2, turn_enumT a (s1.heap.objs.size + 1) s1.heap.objs.size ne, ⟨⟨_, he⟩, hit⟩, fun b hb => ?_, q⟩
  have hb : b = s1.heap.objs.size + 1 ∨ b = s1.heap.objs.size := by simpa using hb
  rcases hb with rfl | rfl
  · exact I1.fpOk (Nat.le_succ _) (I1.hok.fresh (Nat.le_succ _))
  · exact I1.fpOk (Nat.le_refl _) (I1.hok.fresh (Nat.le_refl _))
section
variable {σ : St} {H : Hp} {K : PySem.W.Frag}
theorem st_enumT {ta : TA} {R : It → Hp → Prop} (h : ta σ H fun vs H1 => ∃ a xs, vs = [.ref a] ∧ SqT K H1 a xs ∧ R (Ite K a) H1) : iEnumT K ta σ H R := h
theorem enumT_for {g : TG} {tb : TS} {D : Ends} {a : Addr} {xs : List V} (hq : SqT K H a xs) (Pv : Nat → St → Hp → Prop) (h0 : Pv 0 σ H) (hk : ∀ i σ H', Pv i σ H' → SqT K H' a xs)
    (hs : ∀ i x σ H p, xs[i]? = some x → Pv i σ H → H p = none → g (.ref p) σ (upd H p (.tup [.int i, x])) fun σ2 H2 => tb { D with nx := PAt Pv (i + 1), ct := PAt Pv (i + 1), bk := D.nx } σ2 H2) (hd : ∀ σ H, Pv xs.length σ H → D.nx σ H) :
    ∃ b ys, [V.ref a] = [.ref b] ∧ SqT K H b ys ∧ ForW g tb D σ (Ite K b) H := by
  refine ⟨a, xs, rfl, hq, fun i m σ H => m = xs.length - i ∧ i ≤ xs.length ∧ Pv i σ H, ⟨xs.length, by simp, Nat.zero_le _, h0⟩, ?_⟩
  rintro i m σ H ⟨rfl, hi, p⟩
  have sq := hk i σ H p
  by_cases hlt : i < xs.length
  · refine .inr ⟨⟨xs, xs[i], sq, by simp [hlt]⟩, Pv (i + 1), fun σ' H' p' => ⟨xs.length - (i + 1), by omega, rfl, hlt, p'⟩, fun x H' y => ?_⟩
    obtain ⟨t, z, rfl, ht, hz, rfl⟩ := y
    exact hs i z σ H t (hz xs sq) p ht
  · have e : i = xs.length := by omega
    subst e
    exact .inl ⟨⟨xs, sq, Nat.le_refl _⟩, hd σ H p⟩
end
section
variable {prog : Program} {w : World} {A : Around} {E : Value → Shared → Prop} {s : Shared}
end
end L2
namespace L2
open PySem PySem.Spec PyProof.Rows PySem.SeqAt
theorem intVals : ∀ {js : List Int} {us : List Value}, Vals (js.map V.int) us → ∃ ps : List (Int × Tok), us = ps.map (fun p => Value.int p.1 p.2) ∧ ps.map (·.1) = js
  | [], _, h => by cases h; exact ⟨[], rfl, rfl⟩
  | j :: js, _, h => by
    have h : Vals (V.int j :: js.map V.int) _ := h
    cases h with
    | cons r t =>
      obtain ⟨k, rfl⟩ := r
      obtain ⟨ps, rfl, e⟩ := intVals t
      exact ⟨(j, k) :: ps, rfl, by simp [e]⟩
section
variable {X : Cx}
def r_sum (K : PySem.W.Frag) : List V → Hp → VK → Prop := fun xs H Q => ∃ (p : Addr) (js : List Int), xs = [.ref p] ∧ SqL K H p (js.map V.int) ∧ ∀ j : Int, Q (.int j) H
theorem call_sumA (hc : X.calm = true) : CallR X (.builtin "sum") (r_sum X.K) := by
  intro pins s σ H xs us Q I r h
  obtain ⟨p, js, rfl, hq, q⟩ := h
  obtain ⟨u, rfl, ru⟩ := vals1 r
  cases ru
  obtain ⟨its, rv, pl, hz⟩ := I.list hq
  obtain ⟨ps, rfl, e⟩ := intVals rv
  have hl : s.heap.IsList p (intItems ps.toArray) := by
    have := pl.isList
    rw [show intItems ps.toArray = (ps.map (fun p => Value.int p.1 p.2)).toArray by unfold intItems; simp]
    exact this
  refine wpAny_with_toks (n := 1) I.tk (sum_intListG (I.ok.hd hc) hl fun h' tk t' hk ht => ?_)
  exact ⟨.int _, H, I.kept hk ht, ⟨_, rfl⟩, q _⟩
end
section
variable {H : Hp} {Q : VK} {K : PySem.W.Frag}
theorem v_sum {p : Addr} {js : List Int} (h : SqL K H p (js.map V.int)) (q : ∀ j : Int, Q (.int j) H) : r_sum K [.ref p] H Q := ⟨p, js, rfl, h, q⟩
theorem v_pop0 {p : Addr} {xs : List V} {y : V} (h1 : H p = some (.lst (y :: xs))) (h : Q y (upd H p (.lst xs))) : rPopAt (.ref p) [.int 0] H Q :=
  ⟨p, y :: xs, 0, 0, y, rfl, rfl, h1, by decide, by decide, by unfold seqIndex?; simp, rfl, h⟩
end
def CDivW (i j : Int) : Prop := 0 < j ∧ j < 2 ^ 200
theorem op_fdivW {X : Cx} : OpR X (binaryOp .FloorDiv) (rI CDivW fun i j => .int (i / j)) := opI fun i j _ _ _ _ _ hc q => by
  have h1 : (0 : Int) < j := hc.1
  have h2 : j < 2 ^ 200 := hc.2
  refine floordiv_int (by omega) (by rw [Int.fdiv_eq_ediv_of_nonneg i (by omega)]; exact q) (.inl (PyProof.noPylong_of_log2 ?_))
  refine Nat.lt_trans ((Nat.log2_lt (by omega)).mpr (?_ : j.natAbs < 2 ^ 200)) (by decide)
  have : ((j.natAbs : Nat) : Int) < ((2 ^ 200 : Nat) : Int) := by
    rw [Int.natAbs_of_nonneg (by omega)]
    have e : ((2 ^ 200 : Nat) : Int) = (2 : Int) ^ 200 := by decide +kernel
    rw [e]; exact h2
  exact Int.ofNat_lt.mp this
theorem v_fdivW {H : Hp} {Q : VK} {i j : Int} (c : CDivW i j) (h : Q (.int (i / j)) H) : rI CDivW (fun i j => .int (i / j)) (.int i) (.int j) H Q := ⟨i, j, rfl, rfl, c, h⟩
theorem plain_ci : plainId "proto.contains_iter" = true := by decide +kernel
theorem entry_ci : entryFor table "proto.contains_iter" = some Builtin.«proto.contains_iter» := entryFor_of_fast (by kernel_rfl)
theorem vv_no_contains : typeLookup (.type "dict_values") "__contains__" = pure none := by rw [typeLookup_type, builtinLookup_eq_fast]; kernel_rfl
section
variable {prog : Program} {w : World} {A : Around} {E : Value → Shared → Prop} {s : Shared} {κ : Type} [DecidableEq κ] {knd : KeyKind prog w κ}
theorem code_ci {it d : Addr} {kvs : List (κ × Value)} {ep : Nat} {x : Int} {tx : Tok} {R : Result → Shared → Prop} {js : List Int} (hne : it ≠ d) (hh : A.in1.handled = none) (hj : ∀ (i : Nat) (k : κ) (v : Value), kvs[i]? = some (k, v) → ∃ (j : Int) (t : Tok), js[i]? = some j ∧ v = Value.int j t) (hl : js.length = kvs.length) :
    ∀ (m i : Nat) (s : Shared), kvs.length - i = m → i ≤ kvs.length → s.heap.IsValIter it d i kvs.length ep → s.heap.DictAt knd d kvs ep →
      (∀ h', Heap.ExtBut it s.heap h' → R (.ok (.ret (.bool (decide (x ∈ js.drop i))))) { s with heap := h' }) → codeAny (model prog w) A (.builtin "proto.contains_iter" ⟨[.ref it, .int x tx], []⟩) R s := by
  intro m
  induction m with
  | zero =>
    intro i s hm hi st hd hR
    refine codeAny_builtin entry_ci ?_
    rw [Around.under_plainId plain_ci _]
    show wpAny _ A.in1 (pyNext (.ref it) >>= _) _ _ s
    refine wpAny_bind (wpAny_pyNext_values_end hh st hd (by rw [List.getElem?_eq_none]; omega) fun h' hb => ?_)
    refine wpAny_bind (wpAny_rule (wpAny_pure ?_))
    have := hR h' hb
    rw [List.drop_eq_nil_of_le (by omega)] at this
    simpa using this
  | succ m ih =>
    intro i s hm hi st hd hR
    have hlt : i < kvs.length := by omega
    refine codeAny_builtin entry_ci ?_
    rw [Around.under_plainId plain_ci _]
    show wpAny _ A.in1 (pyNext (.ref it) >>= _) _ _ s
    obtain ⟨⟨k, v⟩, hkv⟩ : ∃ p, kvs[i]? = some p := ⟨_, List.getElem?_eq_getElem hlt⟩
    obtain ⟨j, t, ej, rfl⟩ := hj i k v hkv
    refine wpAny_bind (wpAny_pyNext_values_item st hd hkv fun h' st' sb => ?_)
    refine wpAny_bind (wpAny_eqBool_int ?_)
    have ed : js.drop i = j :: js.drop (i + 1) := by
      obtain ⟨hi', e⟩ := List.getElem?_eq_some_iff.mp ej
      rw [← e, ← List.drop_eq_getElem_cons]
    by_cases e : j = x
    · subst e
      rw [show (j == j) = true by simp, if_pos rfl]
      refine wpAny_bind (wpAny_rule (wpAny_pure ?_))
      have := hR h' sb.extBut
      rw [ed] at this
      simpa using this
    · rw [show (j == x) = false by simpa using e, if_neg (by decide)]
      refine wpAny_pure ⟨plainId_quiet plain_ci _, ih (i + 1) _ (by omega) hlt st' ?_ fun h'' hb => ?_⟩
      · obtain ⟨o, es, ho, r⟩ := hd
        exact ⟨o, es, sb.extBut d o (Ne.symm hne) ho, r⟩
      · have := hR h'' (fun b o hb' e' => hb b o hb' (sb.extBut b o hb' e'))
        rw [ed] at this
        have e' : ¬ x = j := fun z => e z.symm
        simpa [e'] using this
theorem wp_in_vals {v d : Addr} {kvs : List (κ × Value)} {ep : Nat} {x : Int} {tx : Tok} {js : List Int} {Q : Bool → Shared → Prop} (hh : A.in1.handled = none) (hv : s.heap.IsValuesView v d) (hd : s.heap.DictAt knd d kvs ep) (hj : ∀ (i : Nat) (k : κ) (v : Value), kvs[i]? = some (k, v) → ∃ (j : Int) (t : Tok), js[i]? = some j ∧ v = Value.int j t) (hl : js.length = kvs.length)
    (h : ∀ h', (∀ b o, s.heap.get? b = some o → h'.get? b = some o) → Q (decide (x ∈ js)) { s with heap := h' }) : wpAny (model prog w) A (contains (.ref v) (.int x tx)) Q E s := by
  unfold contains
  refine wpAny_holding ?_
  rw [stdlibNamesSay?_of_typeIs hv.typeIs]
  refine wpAny_bind (wpAny_specialOf hv.typeIs vv_no_contains ?_)
  show wpAny _ A (if ((none : Option Value) == some Value.none) = true then _ else _) Q E s
  rw [if_neg (by simp)]
  refine wpAny_bind (wpAny_callSpecialUnlessNone?_none hv.typeIs vv_no_contains ?_)
  refine wpAny_bind (wpAny_rule ?_)
  refine wpAny_bind (wpAny_tryCatch (wpAny_pyIter_values hv hd ?_))
  refine wpAny_bind (wpAny_runValue ?_)
  have dlt : d < s.heap.objs.size := by obtain ⟨o, es, ho, _⟩ := hd; exact Heap.lt_size ho
  refine code_ci (knd := knd) (js := js) (Nat.ne_of_gt dlt) hh hj hl _ 0 _ rfl (Nat.zero_le _) ⟨_, Heap.get?_push_size _ rfl, rfl, rfl⟩ ?_ fun h' hb => ?_
  · obtain ⟨o, es, ho, r⟩ := hd
    exact ⟨o, es, Heap.get?_push_of_some _ ho, r⟩
  · refine wpAny_pure ?_
    exact h h' fun b o e => hb b o (Nat.ne_of_lt (Heap.lt_size e)) (Heap.get?_push_of_some _ e)
end
section
variable {X : Cx} {e o : Expr} {apos cpos pos : Pos} {tx td : TE}
def tInV (neg : Bool) (tx td : TE) : TE := fun σ H Q => tx σ H fun x H1 => td σ H1 fun y H2 => ∃ (i : Int) (a : Addr) (kvs : List (Key × V)) (js : List Int), x = .int i ∧ y = .ref a ∧ H2 a = some (.dK kvs) ∧ kvs.map (·.2) = js.map V.int ∧ Q (.bl (if neg then !decide (i ∈ js) else decide (i ∈ js))) H2
theorem kv_ints : ∀ {kvs : List (Key × V)} {vs : List (Key × Value)} {js : List Int}, KV kvs vs → kvs.map (·.2) = js.map V.int → js.length = vs.length ∧ ∀ (i : Nat) (k : Key) (v : Value), vs[i]? = some (k, v) → ∃ (j : Int) (t : Tok), js[i]? = some j ∧ v = Value.int j t
  | [], vs, js, h, e => by
    cases h
    cases js with
    | nil => exact ⟨rfl, fun i k v h => by simp at h⟩
    | cons _ _ => cases e
  | (k0, v0) :: kvs, vs, js, h, e => by
    cases h with
    | cons r t =>
      rename_i q qs
      cases js with
      | nil => cases e
      | cons j js =>
        injection e with e1 e2
        obtain ⟨h1, h2⟩ := kv_ints t e2
        refine ⟨by simp [h1], fun i k v h => ?_⟩
        cases i with
        | zero =>
          have h : q = (k, v) := by simpa using h
          subst h
          obtain ⟨_, r⟩ := r
          have e1 : v0 = V.int j := e1
          rw [e1] at r
          obtain ⟨t, rfl⟩ := r
          exact ⟨j, t, rfl, rfl⟩
        | succ i => exact h2 i k v (by simpa using h)
theorem in_vals_go {pins : List (Addr × Obj)} {s : Shared} {σ : St} {H : Hp} {Q : Bool → Shared → Prop} (hc : X.calm = true) (I : Inv X pins σ H s) {i : Int} {t : Tok} {a : Addr} {kvs : List (Key × V)} {js : List Int} (e : H a = some (.dK kvs)) (ej : kvs.map (·.2) = js.map V.int)
    (q : ∀ s', Inv X pins σ H s' → Q (decide (i ∈ js)) s') : wpAny (model X.prog X.w) X.A (call (.builtin "dict.values") [.ref a]) (fun u s1 => wpAny (model X.prog X.w) X.A (contains u (.int i t)) Q X.xe s1) X.xe s := by
  obtain ⟨z, hm, vs, kv, dd⟩ := dk_of I.hok e
  obtain ⟨o, es, ep, ho, hx, hdat, hk, hp, hn⟩ := id dd
  refine call_meetsIn PySem.F.slot_dict_values dd.typeIs PySem.F.entry_dict_values (PySem.F.args_dict_values_1 _) (meets_dict_values (mixKind X.prog X.w) a hm) ⟨⟨vs, dd⟩, ?_⟩
  obtain ⟨h1, h2⟩ := kv_ints kv ej
  refine wp_in_vals (knd := mixKind X.prog X.w) (d := a) (kvs := vs) (ep := ep) (js := js) (show X.A.in1.handled = none from I.ok.hd hc) ⟨_, Heap.get?_push_size _ rfl, rfl, rfl⟩ ⟨o, es, Heap.get?_push_of_some _ ho, hx, hdat, hk, hp, hn⟩ h2 h1 fun h' hb => ?_
  exact q _ (I.kept (t' := s.toks) (h' := h') fun b o e => hb b o (Heap.get?_push_of_some _ e))
theorem isD_ty {K : PySem.W.Frag} {H : Hp} {a : Addr} {kvs : List (Key × V)} (e : H a = some (.dK kvs)) : tyV K "dict" (.ref a) H := .inr (.inr (.inl ⟨rfl, .inl ⟨kvs, e⟩⟩))
theorem pe_inV (hc : X.calm = true) (hx : PE X e tx) (ho : PE X o td) (hm : behindInMarks .In (.Call (.Attribute o "values" apos) [] [] cpos) = false := by with_unfolding_all rfl)
    (hbase : attributeBase o "values" X.env (eval o X.env) = eval o X.env := by rfl) (hline : (apos.endLine == cpos.line) = true := by rfl) : PE X (.Compare e [.In] [.Call (.Attribute o "values" apos) [] [] cpos] pos) (tInV false tx td) := by
  intro pins s σ H Q I h
  refine wpAny_Compare1 (thn (hx pins s σ H _ I h) fun v s1 ⟨x, H1, I1, r1, q1⟩ => ?_) hm
  refine wpAny_Call_method0_late hbase hline (thn (ho pins s1 σ H1 _ I1 q1) fun u s2 ⟨y, H2, I2, r2, i, a, kvs, js, ex, ey, ed, ej, q⟩ => ?_)
  subst ex ey
  obtain ⟨t, rfl⟩ := r1
  obtain ⟨h1, h2⟩ := tyV_is I2 r2 (isD_ty ed)
  cases r2
  refine ⟨"dict", _, PySem.F.plainAttrs_dict, PySem.F.slot_dict_values, PySem.F.type_dict_values, h1, h2, Calls.callWith_builtin rfl (PySem.evalArgs_none ?_)⟩
  exact thn (in_vals_go (Q := fun bb s' => EP X pins σ Q (.bool bb) s') hc I2 ed ej fun s' I' => ⟨.bl _, H2, I', rfl, q⟩) fun u s3 hu => wpAny_bind (wpAny_mono hu (fun bb s4 h4 => wpAny_pure h4) fun _ _ z => z)
theorem pt_notinV (hc : X.calm = true) (hx : PE X e tx) (ho : PE X o td) (hm : behindInMarks .NotIn (.Call (.Attribute o "values" apos) [] [] cpos) = false := by with_unfolding_all rfl)
    (hbase : attributeBase o "values" X.env (eval o X.env) = eval o X.env := by rfl) (hline : (apos.endLine == cpos.line) = true := by rfl) : PT X (.Compare e [.NotIn] [.Call (.Attribute o "values" apos) [] [] cpos] pos) (tTest (tInV true tx td)) := by
  intro pins s σ H Q I h
  refine wpAny_isTrue_Compare1 (thn (hx pins s σ H _ I h) fun v s1 ⟨x, H1, I1, r1, q1⟩ => ?_) hm
  refine wpAny_Call_method0_late hbase hline (thn (ho pins s1 σ H1 _ I1 q1) fun u s2 ⟨y, H2, I2, r2, i, a, kvs, js, ex, ey, ed, ej, kk, ek, q⟩ => ?_)
  subst ex ey
  obtain ⟨t, rfl⟩ := r1
  obtain ⟨h1, h2⟩ := tyV_is I2 r2 (isD_ty ed)
  cases r2
  refine ⟨"dict", _, PySem.F.plainAttrs_dict, PySem.F.slot_dict_values, PySem.F.type_dict_values, h1, h2, Calls.callWith_builtin rfl (PySem.evalArgs_none ?_)⟩
  exact thn (in_vals_go (Q := fun bb s' => TP X pins σ Q (!bb) s') hc I2 ed ej fun s' I' => ⟨H2, I', by injection ek with ek; subst ek; exact q⟩) fun u s3 hu => wpAny_bind (wpAny_mono hu (fun bb s4 h4 => wpAny_pure (wpAny_truthy_bool h4)) fun _ _ z => z)
end
section
variable {σ : St} {H : Hp} {Q : VK}
theorem st_dget {td ty : TE} (h : td σ H fun x H1 => ty σ H1 fun y H2 => ∃ a v, x = .ref a ∧ DGet H2 a y (some v) ∧ Q v H2) : tDGet td ty σ H Q := h
theorem st_inV {neg : Bool} {tx td : TE} (h : tx σ H fun x H1 => td σ H1 fun y H2 => ∃ (i : Int) (a : Addr) (kvs : List (Key × V)) (js : List Int), x = .int i ∧ y = .ref a ∧ H2 a = some (.dK kvs) ∧ kvs.map (·.2) = js.map V.int ∧ Q (.bl (if neg then !decide (i ∈ js) else decide (i ∈ js))) H2) : tInV neg tx td σ H Q := h
end
end L2
namespace L2
open PySem PySem.Spec PyProof.Rows PySem.SeqAt
def tOrT (K : PySem.W.Frag) (ta tb : TE) : TE := fun σ H Q => ta σ H fun x H1 => ∃ k, TruV K x H1 k ∧ if k = true then Q x H1 else tb σ H1 Q
theorem pe_orT {X : Cx} {a b : Expr} {rest : List Expr} {pos : Pos} {ta tb : TE} (ha : PE X a ta) (hb : PE X (.BoolOp .Or (b :: rest) pos) tb) : PE X (.BoolOp .Or (a :: b :: rest) pos) (tOrT X.K ta tb) := by
  intro pins s σ H Q I h
  refine BoolOp_or (thn (ha pins s σ H _ I h) fun v s1 ⟨x, H1, I1, r1, k, tv, q1⟩ => ?_)
  refine thn (tru_ok pins s1 σ H1 x v (fun b H' => H' = H1 ∧ b = k) I1 r1 ⟨k, tv, rfl, rfl⟩) fun b' s2 ⟨H2, I2, e1, e2⟩ => ?_
  subst e1 e2
  cases b' with
  | false => exact hb pins s2 σ H2 Q I2 q1
  | true => exact ⟨x, H2, I2, r1, q1⟩
section
variable {σ : St} {H : Hp} {Q : VK} {K : PySem.W.Frag}
theorem st_orT {ta tb : TE} (h : ta σ H fun x H1 => ∃ k, TruV K x H1 k ∧ if k = true then Q x H1 else tb σ H1 Q) : tOrT K ta tb σ H Q := h
theorem v_catH {a b : Addr} {xs ys : List V} (h1 : H a = some (.tup xs)) (h2 : H b = some (.tup ys)) (hz : xs.length + ys.length ≤ sizeLine) (h : ∀ p H', Same H H' → H' p = some (.tup (xs ++ ys)) → Q (.ref p) H') : rAddB K (.ref a) (.ref b) H Q := by
  by_cases hx : xs = []
  · subst hx
    exact .inr ⟨a, b, ys, rfl, rfl, SqT.of h1, SqT.of h2, h b H (fun _ _ e => e) h2⟩
  · refine .inl (.inr (.inr (.inr ⟨a, b, xs, ys, rfl, rfl, SqT.of h1, SqT.of h2, hx, hz, fun hy => ?_, fun hy p hp => h p _ (Same.new hp _) upd_same⟩)))
    subst hy
    exact h a H (fun _ _ e => e) (by rw [List.append_nil]; exact h1)
theorem v_slH {a : Addr} {xs : List V} {lo hi : Option Int} (h1 : H a = some (.tup xs)) (h : ∀ p H', Same H H' → H' p = some (.tup (cutV xs lo hi)) → Q (.ref p) H') : rSlB K (.ref a) lo hi H Q := by
  by_cases hw : HT.sIx xs.length 0 lo = 0 ∧ HT.sIx xs.length xs.length hi = xs.length
  · refine .inr ⟨a, xs, rfl, SqT.of h1, hw, h a H (fun _ _ e => e) ?_⟩
    unfold cutV
    rw [hw.1, hw.2, List.drop_zero, Nat.sub_zero, List.take_length]; exact h1
  · exact .inl (.inr (.inl ⟨a, xs, rfl, SqT.of h1, hw, fun p hp => h p _ (Same.new hp _) upd_same⟩))
end
end L2
namespace L2
open PySem PySem.Spec PyProof.Rows PySem.SeqAt
section
variable {σ : St} {H : Hp} {Q : VK} {K : PySem.W.Frag}
end
section
variable {X : Cx}
end
section
variable {H : Hp} {Q : VK} {K : PySem.W.Frag}
end
end L2
namespace L2
open PySem PySem.Spec PyProof.Rows
section
variable {P : Program} {w : World} {H H' : Hp} {h h1 h2 : Heap} {a b T : Addr} {o : HO} {l : List Env}
theorem ObjOk.lies (x : ObjOk P w H h a o) : ∃ u, h.get? a = some u := by
  cases o with
  | lst xs => obtain ⟨_, _, _, _, e⟩ := x; exact ⟨_, e⟩
  | tup xs => obtain ⟨_, _, _, _, e, _⟩ := x; exact ⟨_, e⟩
  | dK kvs => obtain ⟨_, _, _, _, o, _, _, e, _⟩ := x; exact ⟨_, e⟩
  | dT kvs => obtain ⟨_, _, _, _, o, _, _, e, _⟩ := x; exact ⟨_, e⟩
  | set S n => obtain ⟨o, _, _, _, e, _⟩ := x; exact ⟨_, e⟩
  | ins C dx fs => obtain ⟨_, _, _, e, _⟩ := x; exact ⟨_, e⟩
  | own y => obtain ⟨_, e⟩ := x; exact ⟨_, e⟩
  | xd fs => obtain ⟨_, ⟨_, _, _, e, _⟩, _⟩ := x; exact ⟨_, e⟩
  | rng lo hi => obtain ⟨_, _, _, e⟩ := x; exact ⟨_, e⟩
  | frz ob u => obtain ⟨e, _⟩ := x; exact ⟨_, e⟩
  | tbl ps => exact ⟨_, (show h.get? a = some _ from x)⟩
  | met f y => exact ⟨_, (show h.get? a = some _ from x)⟩
  | ext φ => obtain ⟨_, ⟨_, e⟩, _⟩ := x; exact ⟨_, e⟩
theorem HOk.gone (x : HOk P w H h) (e : h.get? a = none) : H a = none := by
  cases q : H a with
  | none => rfl
  | some u =>
    obtain ⟨v, z⟩ := (x a u q).lies
    rw [e] at z; cases z
structure Aw (l : List Env) (a T : Addr) (h h' : Heap) : Prop where
  keep : ∀ b o, h.get? b = some o → b ≠ a → b ≠ T → b ∉ frs l → h'.get? b = some o
  slot : ∀ b o, h.get? b = some o → b ∈ frs l → ∃ sl, h'.get? b = some { o with slots := sl }
theorem Un.away (u : Un (frs l) [] H H' h h1) (na : h.get? a = none) (nT : h.get? T = none) (w : Aw l a T h1 h2) : Un (frs l) [] H H' h h2 := by
  have ne : ∀ {b o c}, h.get? b = some o → h.get? c = none → b ≠ c := fun e n z => by rw [z, n] at e; cases e
  refine ⟨fun b o q n hb hx => w.keep b o (u.keep b o q n hb hx) (ne q na) (ne q nT) hb, fun b o q n hb hx => ?_, u.free, fun b o q hx => ?_, u.tups, u.frzs, u.tbls⟩
  · obtain ⟨sl, e⟩ := u.slot b o q n hb hx
    obtain ⟨sl', e'⟩ := w.slot b _ e hb
    exact ⟨sl', e'⟩
  · obtain ⟨o', e⟩ := u.there b o q hx
    by_cases hb : b ∈ frs l
    · obtain ⟨sl, e'⟩ := w.slot b o' e hb
      exact ⟨_, e'⟩
    · exact ⟨o', w.keep b o' e (ne q na) (ne q nT) hb⟩
theorem HOk.away (x : HOk P w H h1) (nf : ∀ b ∈ frs l, H b = none) (na : H a = none) (nT : H T = none) (y : Aw l a T h1 h2) : HOk P w H h2 := fun b u e => by
  have ne : ∀ {b o c}, H b = some o → H c = none → b ≠ c := fun e n z => by rw [z, n] at e; cases e
  refine (x b u e).stay (fun c v hc q => ?_) (fun _ q => q) fun _ _ q => q
  have hs : ∃ o, H c = some o := by
    rcases hc with rfl | hc
    · exact ⟨_, e⟩
    · exact ⟨_, hc⟩
  obtain ⟨o, e'⟩ := hs
  exact y.keep c v q (ne e' na) (ne e' nT) fun hb => by rw [nf c hb] at e'; cases e'
theorem ff_of {base B : Heap} : ∀ {l : List Env}, h.FunFrames base l → (∀ b ∈ frs l, B.get? b = none) → (∀ b o, h.get? b = some o → b ∈ frs l → ∃ sl, h1.get? b = some { o with slots := sl }) → h1.FunFrames B l := by
  intro l
  induction l with
  | nil => intro _ _ _; trivial
  | cons env r ih =>
    intro hl hB hs
    obtain ⟨hk, ⟨L, o, hf, hn, ho, hd⟩, hr⟩ := hl
    have sub : ∀ b ∈ frs r, b ∈ frs (env :: r) := fun b hb => by unfold frs; rw [List.filterMap_cons, hf]; exact List.mem_cons_of_mem _ hb
    have hL : L ∈ frs (env :: r) := by unfold frs; rw [List.filterMap_cons, hf]; exact List.mem_cons_self
    obtain ⟨sl, e⟩ := hs L o ho hL
    exact ⟨hk, ⟨L, _, hf, hB L hL, e, hd⟩, ih hr (fun b hb => hB b (sub b hb)) fun b o q hb => hs b o q (sub b hb)⟩
structure Trc (h h' : Heap) (H : Hp) (a : Addr) (cls : Value) : Prop where
  new : h.get? a = none
  nH : H a = none
  ex : ∃ oe vs a0 T oT ts, h'.get? a = some oe ∧ oe.cls = cls ∧ vs[0]? = some a0 ∧ oe.data = Data.fields vs ∧ vs[1]? = some (Value.ref T) ∧ T ≠ a ∧ h'.get? T = some oT ∧ oT.data = Data.fields ts ∧ ts[3]? = some Value.none ∧ h.get? T = none ∧ H T = none
def Fly (P : Program) (w : World) : CXT := fun outer H s E e s' =>
  ∃ a cls H', e = Value.ref a ∧ 0 < s'.toks ∧ s'.os = s.os ∧ AllBare s'.gens ∧ Un (frs outer) [] H H' s.heap s'.heap ∧ HOk P w H' s'.heap ∧ Trc s.heap s'.heap H' a cls ∧ E cls none H'
abbrev hidX (h : Heap) (a T : Addr) (l : List Env) : Heap := PySem.W.hideAll h (a :: T :: frs l)
theorem hidX_stays (h : Heap) (a T : Addr) (l : List Env) : (hidX h a T l).StaysIn h := fun b o e => PySem.W.of_hideAll _ e
theorem hidX_a : (hidX h a T l).get? a = none := PySem.W.hideAll_none _ (by simp)
theorem hidX_T : (hidX h a T l).get? T = none := PySem.W.hideAll_none _ (by simp)
theorem hidX_fr : ∀ b ∈ frs l, (hidX h a T l).get? b = none := fun b hb => PySem.W.hideAll_none _ (by simp [hb])
theorem aw_of (hs : (hidX h a T l).StaysIn h2) (hf : ∀ b o, h.get? b = some o → (∀ vs : Array Value, o.data ≠ Data.fields vs) → ∃ sl, h2.get? b = some { cls := o.cls, dict := o.dict, data := o.data, slots := sl })
    {base : Heap} (ff : h.FunFrames base l) : Aw l a T h h2 := by
  refine ⟨fun b o e n1 n2 n3 => hs b o (PySem.W.hideAll_get _ e (by simp [n1, n2, n3])), fun b o e hb => ?_⟩
  obtain ⟨_, o', e', d⟩ := ff.mem hb
  rw [e] at e'; cases e'
  exact hf b _ e d
theorem trc_of {cls a0 : Value} {h0 base : Heap} (new : h0.get? a = none) (nH : H a = none) (nT0 : h0.get? T = none) (nT : H T = none) (hu : ∀ b o, h0.get? b = some o → ∃ o', h.get? b = some o') (hok : HOk P w H h)
    (ff : h2.FunFrames base l) (t : h2.TracedW (hidX h a T l) a cls a0) : Trc h0 h2 H a cls := by
  obtain ⟨oe, vs, T', oT, ts, e1, ⟨e2, e3⟩, e4, e5, e6, e7, e8, e9, e10⟩ := t
  have q : h0.get? T' = none ∧ H T' = none := by
    by_cases z : T' = T
    · rw [z]; exact ⟨nT0, nT⟩
    · have hb : T' ∉ frs l := fun hb => by
        obtain ⟨_, o, eo, d⟩ := ff.mem hb
        rw [e8] at eo; cases eo
        exact d _ e9
      have hh : h.get? T' = none := by
        cases q : h.get? T' with
        | none => rfl
        | some u =>
          have := PySem.W.hideAll_get (a :: T :: frs l) q (by simp [z, e7, hb])
          rw [e6] at this; cases this
      refine ⟨?_, hok.gone hh⟩
      cases q : h0.get? T' with
      | none => rfl
      | some u =>
        obtain ⟨_, r⟩ := hu _ _ q
        rw [hh] at r; cases r
  exact ⟨new, nH, oe, vs, a0, T', oT, ts, e1, e2, e3, e4, e5, e7, e8, e9, e10, q.1, q.2⟩
end
section
variable {X : Cx} {pins : List (Addr × Obj)} {σ : St} {H H' : Hp} {s s' : Shared} {a : Addr} {cls : Value} {E : XK}
theorem stk_none (I : Inv X pins σ H s) {h' : Heap} (u : Un (frs X.stack) [] H H' s.heap h') : ∀ b ∈ frs X.stack, H' b = none := fun b hb => by
  obtain ⟨_, o, e, _⟩ := I.stack.mem hb
  exact u.free b o e (I.stkFree b hb) (by simp)
theorem stk_ff (I : Inv X pins σ H s) {h' B : Heap} (u : Un (frs X.stack) [] H H' s.heap h') (hB : ∀ b ∈ frs X.stack, B.get? b = none) : h'.FunFrames B X.stack :=
  ff_of I.stack hB fun b o e hb => u.slot b o e (I.stkFree b hb) hb (by simp)
theorem Inv.landed {h2 : Heap} {T : Addr} {g : Array GenState} {d : Drawn} {t : Nat} (I : Inv X pins σ H s) (u : Un (frs X.stack) [] H H' s.heap s'.heap) (hok : HOk X.prog X.w H' s'.heap) (hg : AllBare g) (ht : 0 < t)
    (na : s.heap.get? a = none) (nT : s.heap.get? T = none) (ha : H' a = none) (hT : H' T = none) (w : Aw X.stack a T s'.heap h2) : Inv X pins σ H' { s with heap := h2, gens := g, drawn := d, toks := t } :=
  I.call (ch := []) (u.away na nT w) (hok.away (stk_none I u) ha hT w) hg (fun b z => absurd z (by simp)) ht
def Throws (X : Cx) (E : XK) : Prop := ∀ (pins : List (Addr × Obj)) (σ : St) (H : Hp) (s : Shared) (h' : Heap) (a : Addr) (cls : Value) (vs : List Value), Inv X pins σ H s → s.heap.MadeExcOf h' a cls vs → E cls none H → X.xe (.ref a) { s with heap := h' }
theorem fly_first {Q' : Value → Shared → Prop} {h' : Heap} {vs : List Value} (hst : X.stack = X.env :: X.outer) (hex : X.ex = []) (hf : X.env.frame = some X.env.locals) (I : Inv X pins σ H s) (m : s.heap.MadeExcOf h' a cls vs) (hE : E cls none H) :
    wpAny (model X.prog X.w) X.A (leaving X.env (.ref a)) (fun _ s'' => Fly X.prog X.w X.outer X.H₀ X.s₀ E (.ref a) s'') Q' { s with heap := h' } := by
  obtain ⟨t, e1, e2, e3⟩ := m.there
  have u : Un (frs X.stack) [] H H s.heap h' := Un.kept m.keeps
  have ff : h'.FunFrames (hidX h' a a X.stack) X.stack := stk_ff I u hidX_fr
  have hok : HOk X.prog X.w H h' := I.hok.kept m.keeps
  have na : H a = none := I.hok.gone m.new
  refine wpAny_leaving_firstW (base := hidX h' a a X.stack) (outer := X.outer) (L := X.env.locals) (a0 := Value.ref t) (by rw [I.ok.frames, hst]) (by rw [← hst]; exact ff) hf e1 (hidX_stays _ _ _ _) hidX_a rfl rfl rfl fun h2 L => ?_
  rw [← hst] at L
  obtain ⟨L1, L2, L3, L4⟩ := L
  have aw : Aw X.stack a a h' h2 := aw_of L1 L4 ff
  have J : Inv X pins σ H { s with heap := h2, gens := s.gens, drawn := s.drawn, toks := s.toks } := I.landed (s' := { s with heap := h' }) u hok I.bare I.tk m.new m.new na na aw
  have hs0 : ∀ b o, X.s₀.heap.get? b = some o → ∃ o', s.heap.get? b = some o' := fun b o e => I.base.there b o e (by rw [hex]; simp)
  have new0 : X.s₀.heap.get? a = none := by
    cases q : X.s₀.heap.get? a with
    | none => rfl
    | some o => obtain ⟨_, r⟩ := hs0 a o q; rw [m.new] at r; cases r
  refine ⟨a, cls, H, rfl, I.tk, I.os, I.bare, ?_, J.hok, trc_of new0 na new0 na (fun b o e => ?_) hok L2 L3, hE⟩
  · have := J.base; rw [hex] at this; exact this
  · obtain ⟨o', r⟩ := hs0 b o e
    exact ⟨o', m.keeps b o' r⟩
theorem fly_next {Q' : Value → Shared → Prop} {e : Value} (hst : X.stack = X.env :: X.outer) (hex : X.ex = []) (hf : X.env.frame = some X.env.locals) (I : Inv X pins σ H s) (F : Fly X.prog X.w X.stack H s E e s') :
    wpAny (model X.prog X.w) X.A (leaving X.env e) (fun _ s'' => Fly X.prog X.w X.outer X.H₀ X.s₀ E e s'') Q' s' := by
  obtain ⟨a, cls, H', rfl, tk, os, bare, u, hok, tr, hE⟩ := F
  obtain ⟨oe, vs, a0, T, oT, ts, e1, e2, e3, e4, e5, e6, e7, e8, e9, e10, e11⟩ := tr.ex
  have ff : s'.heap.FunFrames (hidX s'.heap a T X.stack) X.stack := stk_ff I u hidX_fr
  refine wpAny_leaving_nextW (base := hidX s'.heap a T X.stack) (outer := X.outer) (L := X.env.locals) (cls := cls) (a0 := a0) (by rw [I.ok.frames, hst]) (by rw [← hst]; exact ff) hf ⟨oe, vs, T, oT, ts, e1, ⟨e2, e3⟩, e4, e5, hidX_T, e6, e7, e8, e9⟩ (hidX_stays _ _ _ _) hidX_a fun h2 L => ?_
  rw [← hst] at L
  obtain ⟨L1, L2, L3, L4⟩ := L
  have aw : Aw X.stack a T s'.heap h2 := aw_of L1 L4 ff
  have J : Inv X pins σ H' { s with heap := h2, gens := s'.gens, drawn := s'.drawn, toks := s'.toks } := I.landed u hok bare tk tr.new e10 tr.nH e11 aw
  have hs0 : ∀ b o, X.s₀.heap.get? b = some o → ∃ o', s.heap.get? b = some o' := fun b o e => I.base.there b o e (by rw [hex]; simp)
  have new0 : ∀ c, s.heap.get? c = none → X.s₀.heap.get? c = none := fun c n => by
    cases q : X.s₀.heap.get? c with
    | none => rfl
    | some o => obtain ⟨_, r⟩ := hs0 c o q; rw [n] at r; cases r
  refine ⟨a, cls, H', rfl, tk, os.trans I.os, bare, ?_, J.hok, trc_of (new0 a tr.new) tr.nH (new0 T e10) e11 (fun b o e => ?_) hok L2 L3, hE⟩
  · have := J.base; rw [hex] at this; exact this
  · obtain ⟨o', r⟩ := hs0 b o e
    exact u.there b o' r (by simp)
end
section
variable {P : Program} {w : World} {K : PySem.W.Frag} {mg : Str → Option Value} {base : Heap} {N : List Str} {qual : Str} {scope : Scope} {f : Addr} {cd : Value} {A : Around} {outer : List Env} {s : Shared} {H : Hp} {E : XK}
theorem throws_cx : Throws (cxOf (Fly P w) P w K mg base N qual scope f cd A outer s H E) E := fun pins σ H1 s1 h' a cls vs I m hE =>
  fly_first (X := cxOf (Fly P w) P w K mg base N qual scope f cd A outer s H E) rfl rfl rfl I m hE
theorem passes_cx : Passes (Fly P w) (cxOf (Fly P w) P w K mg base N qual scope f cd A outer s H E) E := fun pins σ H1 s1 e s' I F =>
  fly_next (X := cxOf (Fly P w) P w K mg base N qual scope f cd A outer s H E) rfl rfl rfl I F
theorem own_cx : PassesOwn (model P w) (cxOf (Fly P w) P w K mg base N qual scope f cd A outer s H E).A (cxOf (Fly P w) P w K mg base N qual scope f cd A outer s H E).env (cxOf (Fly P w) P w K mg base N qual scope f cd A outer s H E).xe :=
  PassesOwn.leaving
theorem Fun.okX {x : Str} {st : Stmt} {fd : FuncData} {ps : List Str} {k : Nat} {sp : Sp} (F : Fun K x qual st f fd) (S : FnScope N ps (defScope st)) (len : ∀ vs H Q E, sp vs H Q E → vs.length = ps.length)
    (hbody : ∀ (cdv : Value) (A : Around) (outer : List Env) (s : Shared) (H : Hp) (vs : List V) (Q : VK) (E : XK), Room k (A.deeper (envOfC qual (defScope st) s.heap.objs.size f cdv)) → sp vs H Q E →
      ∃ t, PSs (cxOf (Fly P w) P w K mg base N qual (defScope st) f cdv A outer s H E) (defBody st) t ∧ t { nx := fun _ H' => Q .non H', rt := Q } (start N vs) H) : FnOk P w K mg base (Fly P w) (k + 1) f fd ps sp := by
  obtain ⟨oc, od, kV, doc, pm, an, cdv, ct, osl, rfl, lk, hcd⟩ := F.ex
  exact fn_of lk hcd S len fun A outer s H vs Q E hr hsp => hbody cdv A outer s H vs Q E hr hsp
end
end L2
namespace L2
open PySem PySem.Spec PyProof.Rows
abbrev bmV : List Value := [Value.type "ValueError", Value.type "Exception", Value.type "BaseException", Value.type "object"]
structure OwnX (K : PySem.W.Frag) (mg : Str → Option Value) (x : Str) (C : Addr) : Prop where
  mx : mg x = some (.ref C)
  ix : PySem.W.excIn K C bmV "ValueError.__new__" = true
theorem exc_cls {K : PySem.W.Frag} {h : Heap} {C : Addr} {bmB : List Value} {newId : String} (X : K.In h) (q : PySem.W.excIn K C bmB newId = true) :
    ∃ bm N nm qn bs hd sn sub ab col dd k0 k1 k2 k3 k5 mN, h.get? C = some (excClassObj nm qn C N bs bm hd sn sub ab col dd k0 k1 k2 k3 k5 newId) ∧ h.Ns N mN ∧ mN "__init__" = none ∧ OwnTail h bmB bm := by
  revert q
  unfold PySem.W.excIn
  split
  next dd cd sl ho =>
    split
    next C' bm k0 k1 k2 k3 n k5 hm hs =>
      intro q
      simp only [Bool.and_eq_true, beq_iff_eq, Bool.not_eq_true'] at q
      obtain ⟨⟨⟨⟨⟨q1, q2⟩, q3⟩, q4⟩, q5⟩, q6⟩ := q
      subst q1 q2
      cases cd
      simp only at hm q3 q5 q6
      subst hm q3
      obtain ⟨sl⟩ := sl
      simp only at hs
      subst hs
      exact ⟨bm, _, _, _, _, _, _, _, _, _, dd, k0, k1, k2, k3, k5, _, X _ _ ho, .of_isNs (PySem.W.isNs_of_in X q5), PySem.W.nsMap_none_of_in X q5 q6, PySem.W.tail_of_in X q4⟩
    next => intro q; cases q
  next => intro q; cases q
section
variable {X : Cx} {C : Addr} {x : Str} {np cpos pos : Pos} {e₀ : Expr} {es : List Expr} {t : TA} {E : XK}
def tRaise (C : Addr) (E : XK) (t : TA) : TS := fun _ σ H => t σ H fun vs H1 => vs.length ≤ sizeLine ∧ E (.ref C) none H1
theorem ps_raise (hx : Throws X E) (hg : Gl X x) (O : OwnX X.K X.mg x C) (hc : X.calm = true) (ha : PA X (e₀ :: es) t)
    (hdb : (x == ("__debug__" : Str)) = false := by decide) (he : starEach (e₀ :: es) X.env = (false, eval e₀ X.env) :: starEach es X.env := by rfl) (hpl : (backTo cpos (starEach es X.env)).any (·.1) = false := by rfl) :
    PS X (.Raise (some (.Call (.Name x np) (e₀ :: es) [] cpos)) none pos) (tRaise C E t) := by
  intro pins s σ H D I h
  obtain ⟨bm, N, nm, qn, bs, hd, sn, sub, ab, col, dd, k0, k1, k2, k3, k5, mN, c1, c2, c3, c4⟩ := exc_cls I.ok.mod.kin O.ix
  refine wpAny_Raise_call_subT (k5 := k5) (k3 := k3) (k2 := k2) (k1 := k1) (k0 := k0) (dd := dd) (col := col) (ab := ab) (sub := sub) (sn := sn) (hdct := hd) (bs := bs) (nm := nm) (q := qn) (C := C) (N := N) (bm := bm) (mN := mN) F.excBase_ValueError (c4.hasType F.excBase_ValueError.hasBase) (I.ok.hd hc) (by rw [he]; show (false || (backTo cpos (starEach es X.env)).any (·.1)) = false; rw [hpl]; rfl) c3 (ld_glob I hg O.mx ⟨rfl, ?_⟩ hdb)
  have A := ha cpos pins s σ H _ I h
  rw [he] at A ⊢
  refine Calls.evalArgs_plain (thn A fun us s1 ⟨vs, H1, I1, r, q1, q2⟩ => ?_)
  exact ⟨rfl, by rw [← r.length]; exact q1, I1.bk _ _ c1, c2.keeps I1.bk, c4.keeps I1.bk, fun h' a m => hx pins σ H1 s1 h' a _ us I1 m q2⟩
end
abbrev Cx.held (X : Cx) (a : Addr) (E : Value → Shared → Prop) : Cx := { X with A := X.A.mark (some (.ref a)), calm := false, xe := E }
theorem Cx.Ok.held {X : Cx} (ok : X.Ok) (a : Addr) (E : Value → Shared → Prop) : (X.held a E).Ok :=
  ⟨ok.mod, ok.kind, ok.glob, ok.blt, ok.above, ok.inj, ok.has, ok.cab, (fun z => Bool.noConfusion z), ok.frames, ok.stk, ok.exf, ok.bs, ok.bsz, ok.noex, ok.exfs, ok.funs, ok.frf⟩
section
variable {X : Cx} {pins : List (Addr × Obj)} {σ : St} {H : Hp} {s : Shared} {E : Value → Shared → Prop} {a : Addr}
theorem Inv.held (I : Inv X pins σ H s) (a : Addr) (E : Value → Shared → Prop) : Inv (X.held a E) pins σ H s := ⟨I.ok.held a E, I.os, I.bare, I.base, I.loc, I.cell, I.free, I.freeC, I.pin, I.hok, I.len, I.tk⟩
theorem Inv.unheld (ok : X.Ok) (I : Inv (X.held a E) pins σ H s) : Inv X pins σ H s := ⟨ok, I.os, I.bare, I.base, I.loc, I.cell, I.free, I.freeC, I.pin, I.hok, I.len, I.tk⟩
theorem SP.unheld {D : Ends} {f : Flow} {s' : Shared} (ok : X.Ok) (h : SP (X.held a E) pins D f s') : SP X pins D f s' := by
  cases f with
  | next => obtain ⟨σ', H', I, q⟩ := h; exact ⟨σ', H', I.unheld ok, q⟩
  | brk => obtain ⟨σ', H', I, q⟩ := h; exact ⟨σ', H', I.unheld ok, q⟩
  | cont => obtain ⟨σ', H', I, q⟩ := h; exact ⟨σ', H', I.unheld ok, q⟩
  | ret u => obtain ⟨v, σ', H', I, r, q⟩ := h; exact ⟨v, σ', H', I.unheld ok, r, q⟩
end
def PX (X : Cx) (e : Expr) (t : XK → TE) : Prop :=
  ∀ (pins : List (Addr × Obj)) (s : Shared) (σ : St) (H : Hp) (Q : VK) (E : XK) (xe' : Value → Shared → Prop), Inv X pins σ H s → (∀ H1 s1 e s2, Inv X pins σ H1 s1 → Fly X.prog X.w X.stack H1 s1 E e s2 → xe' e s2) → t E σ H Q →
    wpAny (model X.prog X.w) X.A (eval e X.env) (EP X pins σ Q) xe' s
section
variable {X : Cx} {k : Nat} {f C D : Addr} {fd : FuncData} {ps : List Str} {sp : Sp} {dvs : List V} {ds : List Value} {x : Str} {p pos cpos : Pos} {e : Expr} {es : List Expr} {t : TA}
theorem px_call (F : FnOk X.prog X.w X.K X.mg X.base (Fly X.prog X.w) k f fd ps sp) (hr : Room k X.A) (hg : Gl X x) (hm : X.mg x = some (.ref f)) (hk : PySem.W.keepIn X.K (.ref f) = true) (hb : Binds X.K fd ps ds) (hd : Vals dvs ds)
    (ha : ∀ xe', PA (X.wish xe') (e :: es) t) (hdb : (x == ("__debug__" : Str)) = false := by decide) (he : starEach (e :: es) X.env = (false, eval e X.env) :: starEach es X.env := by rfl) (hpl : (backTo pos (starEach es X.env)).any (·.1) = false := by rfl) :
    PX X (.Call (.Name x p) (e :: es) [] pos) (fun E => tCall sp dvs E t) := by
  intro pins s σ H Q E xe' I hx h
  refine wpAny_Call_Name_kw (ld_glob I hg hm ?_ hdb)
  refine PySem.W.callWith_K (h₀ := X.base) I.ok.mod.kin hk (thn (ha xe' pos pins s σ H _ (I.wish xe') h) fun us s1 ⟨vs, H1, I1, r, q⟩ => ⟨I1.kIn, ?_⟩) he hpl
  have J := I1.unwish
  have r2 : Vals (vs ++ dvs) (us ++ ds) := r.append hd
  have hl : (us ++ ds).length = ps.length := by rw [← r2.length]; exact F.len _ _ _ _ q
  refine wpAny_call (codeAny_mono (F.run X.A X.stack s1 H1 ⟨us, []⟩ (us ++ ds) (vs ++ dvs) Q E hr J.env0 (hb s1 us J.kIn hl) r2 q) fun r s' hq => ?_)
  cases r with
  | error e => exact hx H1 s1 e s' J hq
  | ok fl =>
    cases fl with
    | ret u => exact J.after hq
    | next => exact False.elim hq
    | brk => exact False.elim hq
    | cont => exact False.elim hq
def tTryX (C : Addr) (te : XK → TE) (ts : TS) : TS := fun D σ H => te (fun cls _ H' => cls = .ref C ∧ ts D σ H') σ H fun _ H' => D.nx σ H'
theorem lands {pins : List (Addr × Obj)} {σ : St} {H : Hp} {s s' : Shared} {E : XK} {e : Value} {hs : List ExceptHandler} {Q : Flow → Shared → Prop} {E' : Value → Shared → Prop} (hst : X.stack = X.env :: X.outer) (hf : X.env.frame = some X.env.locals)
    (I : Inv X pins σ H s) (F : Fly X.prog X.w X.stack H s E e s')
    (k : ∀ a cls H' s2, e = .ref a → E cls none H' → Inv X pins σ H' s2 → (∃ oe, s2.heap.get? a = some oe ∧ oe.cls = cls) →
      (∀ (A : Around) (E2 : Value → Shared → Prop) (Q2 : Unit → Shared → Prop), (∀ s3, Inv X pins σ H' s3 → (∃ oe, s3.heap.get? a = some oe ∧ oe.cls = cls ∧ ∃ vs, oe.data = Data.fields vs) → H' a = none → Q2 () s3) → wpAny (model X.prog X.w) A (setFlight (.ref a) none) Q2 E2 s2) →
      wpAny (model X.prog X.w) X.A (handleBy (.ref a) X.env hs) Q E' s2) :
    wpAny (model X.prog X.w) X.A (noteFrame e X.env) (fun _ s₂ => wpAny (model X.prog X.w) X.A (setFlight e none) (fun _ s₃ => wpAny (model X.prog X.w) X.A (handleBy e X.env hs) Q E' s₃) E' s₂) E' s' := by
  obtain ⟨a, cls, H', rfl, tk, os, bare, u, hok, tr, hE⟩ := F
  obtain ⟨oe, vs, a0, T, oT, ts, e1, e2, e3, e4, e5, e6, e7, e8, e9, e10, e11⟩ := tr.ex
  have ff : s'.heap.FunFrames (hidX s'.heap a T X.stack) X.stack := stk_ff I u hidX_fr
  have W : (hidX s'.heap a T X.stack).FlyingW X.stack a cls a0 s'.heap := ⟨hidX_stays _ _ _ _, hidX_a, ff, oe, vs, T, oT, ts, e1, ⟨e2, e3⟩, e4, e5, hidX_T, e6, e7, e8, e9⟩
  have inv : ∀ {h2 : Heap}, (hidX s'.heap a T X.stack).FlyingW X.stack a cls a0 h2 → s'.heap.UpToSlots h2 → Inv X pins σ H' { s' with heap := h2 } := fun {h2} W2 U2 => by
    have aw : Aw X.stack a T s'.heap h2 := aw_of W2.1 U2 ff
    have J := I.landed (g := s'.gens) (d := s'.drawn) (t := s'.toks) u hok bare tk tr.new e10 tr.nH e11 aw
    obtain ⟨hh, g, d, t, os'⟩ := s'
    obtain rfl : os' = s.os := os
    exact J
  refine wpAny_looks_onW (base := hidX s'.heap a T X.stack) (outer := X.outer) (by rw [I.ok.frames, hst]) hf (by rw [← hst]; exact W) fun h1 W1 U1 => ?_
  refine wpAny_landsW W1 fun h2 W2 U2 => ?_
  rw [← hst] at W2
  have U12 := U1.trans U2
  refine k a cls H' _ rfl hE (inv W2 U12) ?_ fun A E2 Q2 hQ => lands_againW W2 fun h3 W3 U3 => hQ _ (inv W3 (U12.trans U3)) ?_ tr.nH
  · obtain ⟨oe', vs', T', oT', ts', f1, ⟨f2, f3⟩, _⟩ := W2.2.2.2
    exact ⟨oe', f1, f2⟩
  · obtain ⟨oe', vs', T', oT', ts', f1, ⟨f2, f3⟩, f4, _⟩ := W3.2.2.2
    exact ⟨oe', f1, f2, vs', f4⟩
theorem ps_tryX {te : XK → TE} {ts : TS} {b₀ : Stmt} {suite : List Stmt} {ep hp np : Pos} {y : Str} (he : PX X e te) (hg : Gl X y) (hm : X.mg y = some (.ref D)) (hx : PySem.W.exmOne X.K (.ref C) (.ref D) = some true)
    (hs : ∀ a xe', PSs (X.held a xe') (b₀ :: suite) ts) (hst : X.stack = X.env :: X.outer := by rfl) (hf : X.env.frame = some X.env.locals := by rfl) (hsw : swapsWith e none ep.line X.env = pure false := by rfl) (hdb : (y == ("__debug__" : Str)) = false := by decide) :
    PS X (.Try [.Expr e ep] [.ExceptHandler (some (.Name y np)) none (b₀ :: suite) hp] [] [] pos) (tTryX C te ts) := by
  intro pins s σ H D I h
  refine wpAny_Try_except (wpAny_execs_cons (wpAny_Expr_any (thn (he pins s σ H _ _ _ I (fun H1 s1 e s2 I1 F => ?_) h) fun v s1 ⟨v', H1, I1, r1, q1⟩ => ?_) I.quiet hsw))
  · refine lands hst hf I1 F fun a cls H' s3 e1 hE J ⟨oe, o1, o2⟩ k => ?_
    obtain ⟨rfl, q⟩ := hE
    refine wpAny_handleBy_cons (codeAny_handlers_test (ld_glob (J.held a fun _ _ => False) hg hm ?_ hdb)) (by intro q; cases q)
    have lk : PySem.W.Looks (model X.prog X.w) s3.heap (typeOf (.ref a)) (.ref C) := o2 ▸ (PySem.W.Looks.ld o1).andThen .now
    refine (PySem.W.exm_one J.kIn lk hx).here ?_
    refine codeAny_handlers_suite (k _ _ _ fun s4 J4 _ _ => ?_)
    exact wpAny_mono (hs a _ pins s4 σ H' D (J4.held a _) q) (fun f s5 z => z.unheld I.ok) fun _ _ z => z
  · exact wpAny_execs_nil (wpAny_execs_nil ⟨σ, H1, I1, q1⟩)
end
end L2
local macro_rules | `(tactic| walk_at "or") => `(tactic| first | exact .inl rfl | exact .inr rfl)
local macro_rules | `(tactic| walk_at "le") => `(tactic| first | decide | omega)
local macro_rules | `(tactic| walk_at "step") => `(tactic| (repeat (first | (with_reducible first | refine L2.st_seq ?_ | refine L2.iteT ?_ | refine L2.iteF ?_ | refine L2.st_asg ?_ | refine L2.st_name ?_ | refine L2.st_C ?_ | refine L2.st_op ?_ | refine L2.st_un ?_ | refine L2.st_ret ?_ | refine L2.st_retN ?_ | refine L2.st_drop ?_ | refine L2.st_if ?_ | refine L2.st_ifE ?_ | refine L2.st_test ?_ | refine L2.st_B ?_ | refine L2.st_bl ?_ | refine L2.st_and ?_ | refine L2.st_or ?_ | refine L2.st_not ?_ | refine L2.st_andV ?_ | refine L2.st_orV ?_ | refine L2.st_notV ?_ | refine L2.st_nil ?_ | refine L2.st_cons ?_ | refine L2.st_tup ?_ | refine L2.st_lst ?_ | refine L2.st_call ?_ | refine L2.st_CB ?_ | refine L2.st_tt ?_ | refine L2.st_break ?_ | refine L2.st_cont ?_ | refine L2.st_next ?_ | refine L2.st_sub ?_ | refine L2.st_bm ?_ | refine L2.st_chain ?_ | refine L2.st_for ?_ | refine L2.st_comp ?_ | refine L2.st_any ?_ | refine L2.st_rng1 ?_ | refine L2.st_rng2 ?_ | refine L2.st_rev ?_ | refine L2.st_sl ?_ | refine L2.st_part ?_ | refine L2.st_nopart ?_ | refine L2.st_int ?_ | refine L2.st_repl ?_ | refine L2.st_enumS ?_ | refine L2.st_iStr ?_ | refine L2.st_bm0 ?_ | refine L2.st_rng3 ?_ | refine L2.st_enumT ?_ | refine L2.st_rev2 ?_ | refine L2.st_rev3 ?_ | refine L2.st_inV ?_ | refine L2.st_dget ?_ | refine L2.st_orT ?_ | refine L2.st_revL ?_ | refine L2.v_min ?_ | refine L2.v_max ?_ | refine L2.st_strs ?_ | refine L2.v_addI ?_ | refine L2.v_subI ?_ | refine L2.v_ltI ?_ | refine L2.v_leI ?_ | refine L2.v_gtI ?_ | refine L2.v_geI ?_ | refine L2.v_eqI ?_ | refine L2.v_eqS ?_ | refine L2.v_neS ?_ | refine L2.v_neI ?_ | refine L2.v_is ?_ | refine L2.v_isnot ?_) | ((with_reducible refine' L2.st_var ?ev ?_); (case ev => exact rfl)) | ((with_reducible refine L2.v_mod ?ec ?_); (case ec => first | decide | omega | assumption)) | ((with_reducible refine L2.v_fdiv ?ec ?_); (case ec => first | exact ⟨by decide, by decide⟩ | exact ⟨by omega, by omega⟩)))))
namespace My
open PySem L2 PyProof.Rows
structure Row where
  name : Str
  sort : Str
  host : Str
  shuts : List Str
  bars : List Str
def Row.da (r : Row) : PyData := .tuple [.str r.name, .str r.sort, .str r.host, .tuple (sDa r.shuts), .tuple (sDa r.bars)]
def oV : Option Str → V
  | some s => .str s
  | none => .non
section
variable {K : PySem.W.Frag} {H H' : Hp} {Q : VK}
theorem row_parts {r : Row} {v : V} (h : Dv K H r.da v) : ∃ b sv bv, v = .ref b ∧ SqT K H b [.str r.name, .str r.sort, .str r.host, sv, bv] ∧ Dv K H (.tuple (sDa r.shuts)) sv ∧ Dv K H (.tuple (sDa r.bars)) bv := by
  obtain ⟨b, ys, rfl, hb, h⟩ := dv_tuple.mp h
  rw [Dvs] at h; obtain ⟨v1, r1, rfl, e1, h⟩ := h
  rw [Dvs] at h; obtain ⟨v2, r2, rfl, e2, h⟩ := h
  rw [Dvs] at h; obtain ⟨v3, r3, rfl, e3, h⟩ := h
  rw [Dvs] at h; obtain ⟨v4, r4, rfl, e4, h⟩ := h
  rw [Dvs] at h; obtain ⟨v5, r5, rfl, e5, h⟩ := h
  rw [Dvs] at h; subst h
  rw [dv_str.mp e1, dv_str.mp e2, dv_str.mp e3] at hb
  exact ⟨b, v4, v5, rfl, hb, e4, e5⟩
def Rws (K : PySem.W.Frag) (H : Hp) (v : V) (rs : List Row) : Prop := ∃ a vs, v = .ref a ∧ (SqL K H a vs ∨ SqT K H a vs) ∧ Dvs K H (rs.map Row.da) vs
theorem v_eqO {x : Str} {n : Option Str} (h : Q (.bl (decide (some x = n))) H) : rEqA K (.str x) (oV n) H Q := by
  cases n with
  | none => refine v_eq rfl ?_; have e : (decide ((V.str x) = oV none)) = decide (some x = none) := by simp [oV]
            rw [e]; exact h
  | some y => refine v_eq rfl ?_; have e : (decide ((V.str x) = oV (some y))) = decide (some x = some y) := by simp [oV]
              rw [e]; exact h
theorem v_eqS {x y : Str} (h : Q (.bl (decide (x = y))) H) : rEqA K (.str x) (.str y) H Q := by
  refine v_eq rfl ?_
  have e : (decide ((V.str x) = V.str y)) = decide (x = y) := by simp
  rw [e]; exact h
theorem v_neS {x y : Str} (h : Q (.bl (!decide (x = y))) H) : rNeA K (.str x) (.str y) H Q := by
  refine v_ne rfl ?_
  have e : (decide ((V.str x) = V.str y)) = decide (x = y) := by simp
  rw [e]; exact h
theorem v_eqI {x y : Int} (h : Q (.bl (decide (x = y))) H) : rEqA K (.int x) (.int y) H Q := by
  refine v_eq rfl ?_
  have e : (decide ((V.int x) = V.int y)) = decide (x = y) := by simp
  rw [e]; exact h
end
def rowOf (rs : List Row) (n : Option Str) : Option Row := rs.find? fun r => decide (some r.name = n)
def sortOf (rs : List Row) (n : Option Str) : Option Str := (rowOf rs n).map (·.sort)
def hostOf (rs : List Row) (n : Option Str) : Option Str := (rowOf rs n).bind fun r => if r.sort = ("frame" : Str) then some r.host else none
def frameOf (rs : List Row) (n : Option Str) : Option Str := (rs.find? fun r => decide (r.sort = ("frame" : Str)) && decide (some r.host = n)).map (·.name)
def sp_row_of (K : PySem.W.Frag) : Sp := fun vs H Q _ => ∃ v n rs, vs = [v, oV n] ∧ Rws K H v rs ∧ (rowOf rs n = none → Q .non H) ∧ ∀ r u, rowOf rs n = some r → Dv K H r.da u → Q u H
theorem len_row_of (K : PySem.W.Frag) : ∀ vs H Q E, sp_row_of K vs H Q E → vs.length = ["rows", "name"].length := by
  rintro vs H Q E ⟨v, n, rs, rfl, _⟩; rfl
def R_row_of (K : PySem.W.Frag) : TS :=
 (tSeq (tFor (iAny K (tVar 0)) (gName 2)
 (tIfS (tTest (tOp (rEqA K) (tOp (rIxA K) (tVar 2) (tC (.int 0))) (tVar 1)))
 (tRet (tVar 2)) tNext))
 (tRet (tC .non)))
theorem find_none_snoc {α : Type} {p : α → Bool} : ∀ {l : List α} {i : Nat} {x : α}, l[i]? = some x → (∀ y ∈ l.take i, p y = false) → p x = true → l.find? p = some x
  | y :: l, 0, x, e, _, hp => by cases e; rw [List.find?_cons, hp]
  | y :: l, i + 1, x, e, h, hp => by
    have hy : p y = false := h y (by simp)
    rw [List.find?_cons, hy]
    exact find_none_snoc (i := i) (by simpa using e) (fun z hz => h z (by simp [hz])) hp
theorem take_all {α : Type} {P : α → Prop} {l : List α} {i : Nat} {x : α} (e : l[i]? = some x) (h : ∀ y ∈ l.take i, P y) (hx : P x) : ∀ y ∈ l.take (i + 1), P y := by
  intro y hy
  rw [List.take_add_one, e] at hy
  rcases List.mem_append.mp hy with z | z
  · exact h y z
  · have : y = x := by simpa using z
    subst this; exact hx
theorem rd_row_of {K : PySem.W.Frag} {vs : List V} {H : Hp} {Q : VK} {E : XK} (h : sp_row_of K vs H Q E) : R_row_of K { nx := fun _ H' => Q .non H', rt := Q } (start ["rows", "name", "row"] vs) H := by
  obtain ⟨v, n, rs, rfl, ⟨a, xs, rfl, hq, hd⟩, h1, h2⟩ := h
  show R_row_of K _ [some (.ref a), some (oV n), none] H
  have hlen : xs.length = rs.length := by have := hd.length; simpa using this
  unfold R_row_of
  refine st_seq (st_for (st_any (st_var rfl ?_)))
  refine any_for hq (fun i σ H' => H' = H ∧ (∃ w, σ = [some (.ref a), some (oV n), w]) ∧ ∀ r ∈ rs.take i, decide (some r.name = n) = false) ⟨rfl, ⟨_, rfl⟩, by simp⟩ (fun hl i σ H' _ p => p.1 ▸ hl) (fun ht i σ H' _ p => p.1 ▸ ht) ?_ ?_
  · rintro i x σ H' hx ⟨rfl, ⟨w, rfl⟩, hn⟩
    obtain ⟨d, hd1, hd2⟩ := hd.get' hx
    rw [List.getElem?_map] at hd1
    obtain ⟨r, hr, rfl⟩ := Option.map_eq_some_iff.mp hd1
    obtain ⟨b, sv, bv, rfl, hb, hsv, hbv⟩ := row_parts hd2
    refine st_name (st_if (st_test (st_op (st_op (st_var rfl (st_C (v_ixT hb rfl (st_var rfl (v_eqO ⟨_, rfl, ?_⟩)))))))))
    by_cases e : some r.name = n
    · rw [decide_eq_true e, if_pos rfl]
      refine ⟨_, rfl, ?_⟩
      exact h2 r _ (find_none_snoc hr hn (decide_eq_true e)) hd2
    · rw [decide_eq_false e, if_neg Bool.false_ne_true]
      exact st_next ⟨rfl, ⟨_, rfl⟩, take_all hr hn (decide_eq_false e)⟩
  · rintro σ H' ⟨rfl, ⟨w, rfl⟩, hn⟩
    show Q .non H'
    refine h1 ?_
    unfold rowOf
    rw [List.find?_eq_none]
    intro r hr
    rw [hlen, List.take_length] at hn
    simp [hn r hr]
end My
namespace My
open PySem L2 PyProof.Rows
variable {K : PySem.W.Frag} {vs : List V} {H : Hp} {Q : VK} {E : XK}
def sp_sort_of (K : PySem.W.Frag) : Sp := fun vs H Q _ => ∃ v n rs, vs = [v, oV n] ∧ Rws K H v rs ∧ Q (oV (sortOf rs n)) H
theorem len_sort_of (K : PySem.W.Frag) : ∀ vs H Q E, sp_sort_of K vs H Q E → vs.length = ["book", "name"].length := by rintro vs H Q E ⟨v, n, rs, rfl, _⟩; rfl
def R_sort_of (K : PySem.W.Frag) : TS :=
 (tSeq (tAsg (tCall (sp_row_of K) [] E0 (tCons (tVar 0) (tCons (tVar 1) tNil))) (gName 2))
 (tRet (tIf (tTest (tOp rIsA (tVar 2) (tC .non))) (tC .non) (tOp (rIxA K) (tVar 2) (tC (.int 1))))))
theorem rd_sort_of (h : sp_sort_of K vs H Q E) : R_sort_of K { nx := fun _ H' => Q .non H', rt := Q } (start ["book", "name", "row"] vs) H := by
  obtain ⟨v, n, rs, rfl, hR, q⟩ := h
  show R_sort_of K _ [some v, some (oV n), none] H
  refine ⟨_, rfl, _, rfl, v, n, rs, rfl, hR, fun e => ?_, fun r u e hu => ?_⟩
  · refine ⟨_, rfl, rfl, _, rfl, ?_⟩
    show Q .non H
    have : sortOf rs n = none := by unfold sortOf; rw [e]; rfl
    rw [this] at q; exact q
  · obtain ⟨b, sv, bv, rfl, hb, _, _⟩ := row_parts hu
    refine ⟨_, rfl, rfl, _, rfl, ?_⟩
    show (if decide (V.ref b = V.non) = true then _ else _)
    rw [decide_eq_false (by simp)]; refine iteF ?_
    refine ⟨_, rfl, v_ixT hb rfl ?_⟩
    have : sortOf rs n = some r.sort := by unfold sortOf; rw [e]; rfl
    rw [this] at q; exact q
def sp_host_of (K : PySem.W.Frag) : Sp := fun vs H Q _ => ∃ v n rs, vs = [v, oV n] ∧ Rws K H v rs ∧ Q (oV (hostOf rs n)) H
theorem len_host_of (K : PySem.W.Frag) : ∀ vs H Q E, sp_host_of K vs H Q E → vs.length = ["book", "name"].length := by rintro vs H Q E ⟨v, n, rs, rfl, _⟩; rfl
def R_host_of (K : PySem.W.Frag) : TS :=
 (tSeq (tAsg (tCall (sp_row_of K) [] E0 (tCons (tVar 0) (tCons (tVar 1) tNil))) (gName 2))
 (tSeq (tIfS (tOr (tTest (tOp rIsA (tVar 2) (tC .non))) (tTest (tOp (rNeA K) (tOp (rIxA K) (tVar 2) (tC (.int 1))) (tC (.str ("frame" : Str))))))
 (tRet (tC .non)) tNext)
 (tRet (tOp (rIxA K) (tVar 2) (tC (.int 2))))))
theorem rd_host_of (h : sp_host_of K vs H Q E) : R_host_of K { nx := fun _ H' => Q .non H', rt := Q } (start ["book", "name", "row"] vs) H := by
  obtain ⟨v, n, rs, rfl, hR, q⟩ := h
  show R_host_of K _ [some v, some (oV n), none] H
  refine ⟨_, rfl, _, rfl, v, n, rs, rfl, hR, fun e => ?_, fun r u e hu => ?_⟩
  · refine ⟨_, rfl, rfl, _, rfl, ?_⟩
    show Q .non H
    have : hostOf rs n = none := by unfold hostOf; rw [e]; rfl
    rw [this] at q; exact q
  · obtain ⟨b, sv, bv, rfl, hb, _, _⟩ := row_parts hu
    refine ⟨_, rfl, rfl, _, rfl, ?_⟩
    show (if decide (V.ref b = V.non) = true then _ else _)
    rw [decide_eq_false (by simp)]; refine iteF ?_
    refine ⟨_, rfl, v_ixT hb rfl (v_neS ⟨_, rfl, ?_⟩)⟩
    by_cases hs : r.sort = ("frame" : Str)
    · rw [decide_eq_true hs, Bool.not_true]; refine iteF ?_
      refine ⟨_, rfl, v_ixT hb rfl ?_⟩
      have : hostOf rs n = some r.host := by unfold hostOf; rw [e]; show (if r.sort = ("frame" : Str) then some r.host else none) = _; rw [if_pos hs]
      rw [this] at q; exact q
    · rw [decide_eq_false hs, Bool.not_false]; refine iteT ?_
      show Q .non H
      have : hostOf rs n = none := by unfold hostOf; rw [e]; show (if r.sort = ("frame" : Str) then some r.host else none) = _; rw [if_neg hs]
      rw [this] at q; exact q
def sp_frame_of (K : PySem.W.Frag) : Sp := fun vs H Q _ => ∃ v n rs, vs = [v, oV n] ∧ Rws K H v rs ∧ Q (oV (frameOf rs n)) H
theorem len_frame_of (K : PySem.W.Frag) : ∀ vs H Q E, sp_frame_of K vs H Q E → vs.length = ["book", "name"].length := by rintro vs H Q E ⟨v, n, rs, rfl, _⟩; rfl
def R_frame_of (K : PySem.W.Frag) : TS :=
 (tSeq (tFor (iAny K (tVar 0)) (gName 2)
 (tIfS (tAnd (tTest (tOp (rEqA K) (tOp (rIxA K) (tVar 2) (tC (.int 1))) (tC (.str ("frame" : Str))))) (tTest (tOp (rEqA K) (tOp (rIxA K) (tVar 2) (tC (.int 2))) (tVar 1))))
 (tRet (tOp (rIxA K) (tVar 2) (tC (.int 0)))) tNext))
 (tRet (tC .non)))
theorem rd_frame_of (h : sp_frame_of K vs H Q E) : R_frame_of K { nx := fun _ H' => Q .non H', rt := Q } (start ["book", "name", "row"] vs) H := by
  obtain ⟨v, n, rs, rfl, ⟨a, xs, rfl, hq, hd⟩, q⟩ := h
  show R_frame_of K _ [some (.ref a), some (oV n), none] H
  have hlen : xs.length = rs.length := by have := hd.length; simpa using this
  refine ⟨_, rfl, any_for hq (fun i σ H' => H' = H ∧ (∃ w, σ = [some (.ref a), some (oV n), w]) ∧ ∀ r ∈ rs.take i, (decide (r.sort = ("frame" : Str)) && decide (some r.host = n)) = false) ⟨rfl, ⟨_, rfl⟩, by simp⟩ (fun hl i σ H' _ p => p.1 ▸ hl) (fun ht i σ H' _ p => p.1 ▸ ht) ?_ ?_⟩
  · rintro i x σ H' hx ⟨rfl, ⟨w, rfl⟩, hn⟩
    obtain ⟨d, hd1, hd2⟩ := hd.get' hx
    rw [List.getElem?_map] at hd1
    obtain ⟨r, hr, rfl⟩ := Option.map_eq_some_iff.mp hd1
    obtain ⟨b, sv, bv, rfl, hb, hsv, hbv⟩ := row_parts hd2
    refine ⟨_, rfl, v_ixT hb rfl (v_eqS ⟨_, rfl, ?_⟩)⟩
    by_cases hs : r.sort = ("frame" : Str)
    · rw [decide_eq_true hs]; refine iteT ?_
      refine ⟨_, rfl, v_ixT hb rfl ⟨_, rfl, v_eqO ⟨_, rfl, ?_⟩⟩⟩
      by_cases e : some r.host = n
      · rw [decide_eq_true e]; refine iteT ?_
        refine ⟨_, rfl, v_ixT hb rfl ?_⟩
        have : frameOf rs n = some r.name := by
          unfold frameOf
          rw [find_none_snoc hr hn (by rw [decide_eq_true hs, decide_eq_true e]; rfl)]; rfl
        rw [this] at q; exact q
      · rw [decide_eq_false e]; refine iteF ?_
        exact ⟨rfl, ⟨_, rfl⟩, take_all hr hn (by rw [decide_eq_false e, Bool.and_false])⟩
    · rw [decide_eq_false hs]; refine iteF ?_
      refine iteF ?_
      exact ⟨rfl, ⟨_, rfl⟩, take_all hr hn (by rw [decide_eq_false hs, Bool.false_and])⟩
  · rintro σ H' ⟨rfl, ⟨w, rfl⟩, hn⟩
    show Q .non H'
    have : frameOf rs n = none := by
      unfold frameOf
      rw [List.find?_eq_none.mpr]
      · rfl
      · intro r hr
        rw [hlen, List.take_length] at hn
        rw [hn r hr]; exact Bool.false_ne_true
    rw [this] at q; exact q
end My
namespace My
open PySem L2
variable {K : PySem.W.Frag} {vs : List V} {H : Hp} {Q : VK} {E : XK}
theorem strV_len (xs : List Str) : (strV xs).length = xs.length := List.length_map _
def ch (c : Nat) : Str := ⟨#[c]⟩
def Lt : Str := "abcdefghijklmnopqrstuvwxyz"
theorem str_ext {x y : Str} (h : x.cps.toList = y.cps.toList) : x = y := by
  obtain ⟨a⟩ := x
  obtain ⟨b⟩ := y
  exact congrArg Str.mk (Array.toList_inj.mp h)
theorem lt_get : ∀ j : Nat, j < 26 → Lt.cps.toList[j]? = some (97 + j) := by decide +kernel
theorem lt_len : Lt.length = 26 := by decide +kernel
theorem lt_at {i : Int} (h0 : 0 ≤ i) (h1 : i < 26) : atI Lt.cps.toList i = some (97 + i.toNat) := by
  have e : i = ((i.toNat : Nat) : Int) := by omega
  have q : atI Lt.cps.toList ((i.toNat : Nat) : Int) = some (97 + i.toNat) := atI_nat (lt_get _ (by omega))
  rw [← e] at q
  exact q
theorem join_ch : ∀ bs : List Nat, (PySem.Txt.join ("" : Str) (bs.map ch)).cps.toList = bs := by
  intro bs
  have e : PySem.Txt.join ("" : Str) (bs.map ch) = Str.join ("" : Str) (bs.map ch) := PySem.StrLaws.glued_eq_join _ _
  rw [e]
  induction bs with
  | nil => rfl
  | cons b r ih =>
    cases r with
    | nil => rfl
    | cons c r =>
      show ((ch b ++ ("" : Str) ++ Str.join ("" : Str) ((c :: r).map ch)).cps).toList = _
      have ih := ih (PySem.StrLaws.glued_eq_join _ _)
      show ((ch b).cps ++ ("" : Str).cps ++ (Str.join ("" : Str) ((c :: r).map ch)).cps).toList = _
      rw [Array.toList_append, Array.toList_append, ih]
      rfl
theorem mul_ch {c : Nat} {n : Int} (h : 1 ≤ n) : (PySem.Txt.mul (ch c) n).cps.toList = List.replicate n.toNat c := by
  unfold PySem.Txt.mul
  rw [if_neg (by omega)]
  have f : ∀ (k : Nat) (acc : Array Nat), ((List.replicate k #[c]).foldl (· ++ ·) acc).toList = acc.toList ++ List.replicate k c := by
    intro k
    induction k with
    | zero => intro acc; simp
    | succ k ih => intro acc; rw [List.replicate_succ, List.foldl_cons, ih]; simp [List.replicate_succ]
  by_cases h1 : n = 1
  · subst h1; rfl
  · have e : (n == 1 || (ch c).length == 0) = false := by
      have : (n == 1) = false := by simpa using h1
      rw [this]; rfl
    rw [e, if_neg Bool.false_ne_true]
    have := f n.toNat #[]
    show (List.foldl (fun x1 x2 => x1 ++ x2) #[] (List.replicate n.toNat #[c])).toList = _
    simpa using this
theorem sl64 {n : Nat} (h : n ≤ 100000) : n ≤ sizeLine := by rw [sizeLine_eq]; omega
theorem Same.tr {H H1 H2 : Hp} (a : Same H H1) (b : Same H1 H2) : Same H H2 := fun c o e => b c o (a c o e)
theorem Same.put {H H1 : Hp} {p : Addr} (s : Same H H1) (h : H p = none) (o : HO) : Same H (upd H1 p o) := fun b u e => by
  have nb : b ≠ p := fun z => by rw [z, h] at e; cases e
  rw [upd_ne nb]; exact s b u e
theorem tupK_lst {d : Addr} {xs ys : List V} (h : H d = some (.lst xs)) : TupK H (upd H d (.lst ys)) :=
  ⟨fun b zs e => by rw [upd_ne (fun z => by rw [z, h] at e; cases e)]; exact e, fun b o zs e => by rw [upd_ne (fun z => by rw [z, h] at e; cases e)]; exact e⟩
theorem ne_free {H : Hp} {a b : Addr} {o : HO} (h : H a = some o) (g : H b = none) : a ≠ b := fun e => by rw [e, g] at h; cases h
theorem flat_strV (xs : List Str) : (strV xs).all flatV = true := by unfold strV; rw [List.all_map]; exact List.all_eq_true.mpr fun _ _ => rfl
theorem inV_strV (x : Str) : ∀ xs : List Str, inV (.str x) (strV xs) = decide (x ∈ xs)
  | [] => by simp [strV, inV]
  | y :: ys => by
    have ih := inV_strV x ys
    unfold inV at ih ⊢
    show (eqV (.str y) (.str x) || (strV ys).any fun z => eqV z (.str x)) = _
    rw [ih]
    by_cases e : x = y
    · subst e; simp [eqV]
    · have e' : ¬ y = x := fun z => e z.symm
      simp [eqV, e, e']
def intV (ns : List Int) : List V := ns.map V.int
theorem intV_len (ns : List Int) : (intV ns).length = ns.length := List.length_map _
theorem intV_app (ns : List Int) (x : Int) : intV ns ++ [V.int x] = intV (ns ++ [x]) := by simp [intV]
theorem app_len (a b : Str) : (a ++ b).length = a.length + b.length := PySem.Str.length_append a b
theorem intV_at {ns : List Int} {i : Nat} (h : i < ns.length) : (intV ns)[i]? = some (.int ns[i]) := by unfold intV; rw [List.getElem?_map, List.getElem?_eq_getElem h]; rfl
theorem ixN_last {n : Nat} (h : 1 ≤ n) : ixN n (-1) = some (n - 1) := by
  unfold ixN
  rw [if_neg (by decide), if_pos (by omega)]
  congr 1
  omega
theorem atI_end {xs : List V} {v : V} (h : 1 ≤ xs.length) (e : xs[xs.length - 1]? = some v) : atI xs (-1) = some v := by
  unfold atI
  rw [ixN_last h]; exact e
theorem ixN_0 {n : Nat} (h : 1 ≤ n) : ixN n 0 = some 0 := by
  unfold ixN
  rw [if_pos (by decide), if_pos (by omega)]; rfl
theorem any_forS {g : TG} {tb : TS} {D : Ends} {σ : St} {H0 : Hp} {a : Addr} {xs : List V} (hq : SqL K H0 a xs ∨ SqT K H0 a xs) (s0 : Same H0 H) (Pv : Nat → St → Hp → Prop) (h0 : Pv 0 σ H) (hk : ∀ i σ H', Pv i σ H' → Same H0 H')
    (hs : ∀ i x σ H, xs[i]? = some x → Pv i σ H → g x σ H fun σ2 H2 => tb { D with nx := PAt Pv (i + 1), ct := PAt Pv (i + 1), bk := D.nx } σ2 H2) (hd : ∀ σ H, Pv xs.length σ H → D.nx σ H) :
    ∃ b, V.ref a = .ref b ∧ (((∃ xs, SqL K H b xs) ∧ ForW g tb D σ (Itl K b) H) ∨ ((∃ xs, SqT K H b xs) ∧ ForW g tb D σ (Itt K b) H)) := by
  rcases hq with hq | hq
  · exact ⟨a, rfl, .inl ⟨⟨xs, s0.sqL hq⟩, for_list Pv h0 (fun i σ H' _ p => (hk i σ H' p).sqL hq) hs hd⟩⟩
  · exact ⟨a, rfl, .inr ⟨⟨xs, s0.sqT hq⟩, for_tup Pv h0 (fun i σ H' _ p => (hk i σ H' p).sqT hq) hs hd⟩⟩
@[reducible] def WlN (tb : TS) (D : Ends) (Pv : St → Hp → Prop) (μ : St → Hp → Nat) (k : Nat) (σ : St) (H1 : Hp) : Prop :=
  ∃ N : St → Hp → Prop, (∀ σ' H', N σ' H' → ∃ m', m' < k ∧ m' = μ σ' H' ∧ Pv σ' H') ∧ tb { D with nx := N, ct := N, bk := D.nx } σ H1
theorem while_raw {c : TT} {tb : TS} {D : Ends} {σ : St} (Pv : St → Hp → Prop) (μ : St → Hp → Nat) (h0 : Pv σ H)
    (hs : ∀ σ H, Pv σ H → c σ H fun b H1 => if b = true then WlN tb D Pv μ (μ σ H) σ H1 else D.nx σ H1) : tWhile c tb D σ H := by
  refine ⟨fun m σ H => m = μ σ H ∧ Pv σ H, ⟨_, rfl, h0⟩, ?_⟩
  rintro m σ H ⟨rfl, p⟩
  exact hs σ H p
theorem any_compS {g : TG} {tt : TT} {te : TE} {σ' : St} {H0 : Hp} {a : Addr} {xs : List V} (hq : SqL K H0 a xs ∨ SqT K H0 a xs) (s0 : Same H0 H) (Pv : Nat → List V → Hp → Prop) (h0 : Pv 0 [] H) (hlen : ∀ i ys H, i ≤ xs.length → Pv i ys H → ys.length ≤ sizeLine) (hk : ∀ i ys H', Pv i ys H' → Same H0 H')
    (hs : ∀ i x ys H, xs[i]? = some x → Pv i ys H → g x σ' H fun σ2 H2 => tt σ2 H2 fun b H3 => if b = true then te σ2 H3 fun y H4 => PAt Pv (i + 1) (ys ++ [y]) H4 else PAt Pv (i + 1) ys H3)
    (hd : ∀ ys H, Pv xs.length ys H → ∀ p, H p = none → Q (.ref p) (upd H p (.lst ys))) :
    ∃ b, V.ref a = .ref b ∧ (((∃ xs, SqL K H b xs) ∧ CompW g tt te σ' Q (Itl K b) H) ∨ ((∃ xs, SqT K H b xs) ∧ CompW g tt te σ' Q (Itt K b) H)) := by
  rcases hq with hq | hq
  · exact any_compL (s0.sqL hq) Pv h0 hlen (fun i ys H' _ p => (hk i ys H' p).sqL hq) hs hd
  · refine ⟨a, rfl, .inr ⟨⟨xs, s0.sqT hq⟩, comp_of (n := xs.length) (fun i x => xs[i]? = some x) Pv h0 hlen (fun i ys H hi p => ?_) (fun i ys H x H' hi p y => ?_) (fun ys H p => ?_) (fun i x ys H _ hx p => hs i x ys H hx p) hd⟩⟩
    · exact ⟨xs, xs[i], (hk i ys H p).sqT hq, by simp [hi]⟩
    · exact ⟨y.1, y.2 xs ((hk i ys H p).sqT hq)⟩
    · exact ⟨xs, (hk _ ys H p).sqT hq, Nat.le_refl _⟩
theorem strV_get {xs : List Str} {i : Nat} {x : V} (h : (strV xs)[i]? = some x) : ∃ y, xs[i]? = some y ∧ x = .str y := by
  unfold strV at h
  rw [List.getElem?_map] at h
  obtain ⟨y, hy, e⟩ := Option.map_eq_some_iff.mp h
  exact ⟨y, hy, e.symm⟩
theorem strV_at {xs : List Str} {i : Nat} (h : i < xs.length) : (strV xs)[i]? = some (.str xs[i]) := by unfold strV; rw [List.getElem?_map, List.getElem?_eq_getElem h]; rfl
theorem strV_app (xs : List Str) (x : Str) : strV xs ++ [V.str x] = strV (xs ++ [x]) := by simp [strV]
theorem ixI {α : Type} {xs : List α} {i : Int} {v : α} (h0 : 0 ≤ i) (e : xs[i.toNat]? = some v) : atI xs i = some v := by
  have := atI_nat e
  rwa [Int.toNat_of_nonneg h0] at this
def Dk (H : Hp) (d : Addr) : Prop := ∃ ns : List Int, H d = some (.lst (intV ns)) ∧ 1 ≤ ns.length ∧ ns.length ≤ 1000
structure Mv (d : Addr) (H H' : Hp) : Prop where
  but : But [d] H H'
  dk : Dk H' d
theorem But.tr {ps : List Addr} {H H1 H2 : Hp} (a : But ps H H1) (b : But ps H1 H2) : But ps H H2 := fun c o e n => b c o (a c o e n) n
theorem Mv.refl {d : Addr} (h : Dk H d) : Mv d H H := ⟨fun _ _ e _ => e, h⟩
theorem Mv.tr {d : Addr} {H H1 H2 : Hp} (a : Mv d H H1) (b : Mv d H1 H2) : Mv d H H2 := ⟨But.tr a.but b.but, b.dk⟩
theorem Mv.at {d p : Addr} {H H' : Hp} {o : HO} (a : Mv d H H') (h : H p = some o) (n : p ≠ d) : H' p = some o := a.but p o h (by simpa using n)
theorem Dk.ne {d p : Addr} (h : Dk H d) (g : H p = none) : p ≠ d := fun e => by obtain ⟨ns, h, _⟩ := h; rw [← e, g] at h; cases h
theorem Mv.put {d p : Addr} {H H1 : Hp} (a : Mv d H H1) (h0 : Dk H d) (h : H p = none) (o : HO) : Mv d H (upd H1 p o) := by
  have np := h0.ne h
  refine ⟨fun b u e n => ?_, ?_⟩
  · have nb : b ≠ p := fun z => by rw [z, h] at e; cases e
    rw [upd_ne nb]; exact a.but b u e n
  · obtain ⟨ns, h1, h2⟩ := a.dk
    exact ⟨ns, by rw [upd_ne (Ne.symm np)]; exact h1, h2⟩
theorem Mv.new {d p : Addr} {H H1 : Hp} (a : Mv d H H1) (h : H1 p = none) (o : HO) : Mv d H (upd H1 p o) := by
  refine ⟨fun b u e n => ?_, ?_⟩
  · have := a.but b u e n
    rw [upd_ne (ne_free this h)]; exact this
  · obtain ⟨ns, h1, h2⟩ := a.dk
    exact ⟨ns, by rw [upd_ne (ne_free h1 h)]; exact h1, h2⟩
theorem Mv.same {d : Addr} {H H1 H2 : Hp} (a : Mv d H H1) (b : Same H1 H2) : Mv d H H2 := ⟨fun c o e n => b c o (a.but c o e n), by obtain ⟨ns, h1, h2⟩ := a.dk; exact ⟨ns, b _ _ h1, h2⟩⟩
theorem Mv.tupK {d : Addr} {H H1 : Hp} (a : Mv d H H1) (h : Dk H d) : TupK H H1 := by
  obtain ⟨ns, h, _⟩ := h
  exact ⟨fun b xs e => a.but b _ e (by simp; rintro rfl; rw [h] at e; cases e), fun b o xs e => a.but b _ e (by simp; rintro rfl; rw [h] at e; cases e)⟩
theorem Dvs.snoc {ds : List PyData} {d : PyData} : ∀ {vs : List V}, Dvs K H (ds ++ [d]) vs → ∃ ws y, vs = ws ++ [y] ∧ Dvs K H ds ws ∧ Dv K H d y := by
  induction ds with
  | nil =>
    intro vs h
    rw [List.nil_append, Dvs] at h
    obtain ⟨v, r, rfl, h1, h2⟩ := h
    rw [Dvs] at h2; subst h2
    exact ⟨[], v, rfl, dvs_nil, h1⟩
  | cons e ds ih =>
    intro vs h
    rw [List.cons_append, Dvs] at h
    obtain ⟨v, r, rfl, h1, h2⟩ := h
    obtain ⟨ws, y, rfl, h3, h4⟩ := ih h2
    exact ⟨v :: ws, y, rfl, dvs_cons h1 h3, h4⟩
theorem Dvs.one {d : PyData} {v : V} (h : Dv K H d v) : Dvs K H [d] [v] := dvs_cons h dvs_nil
theorem dvs_iff_get {ds : List PyData} : ∀ {vs : List V}, vs.length = ds.length → (∀ (i : Nat) (d : PyData) (v : V), ds[i]? = some d → vs[i]? = some v → Dv K H d v) → Dvs K H ds vs := by
  induction ds with
  | nil => intro vs h _; rw [List.length_eq_zero_iff.mp h]; exact dvs_nil
  | cons d ds ih =>
    intro vs h g
    cases vs with
    | nil => cases h
    | cons v vs =>
      refine dvs_cons (g 0 d v rfl rfl) (ih (by simpa using h) fun i d' v' a b => g (i + 1) d' v' (by simpa using a) (by simpa using b))
def intD (ns : List Int) : List PyData := ns.map .int
theorem dvs_intD : ∀ {ns : List Int} {vs : List V}, Dvs K H (intD ns) vs ↔ vs = intV ns
  | [], _ => by show Dvs K H [] _ ↔ _ = []; rw [Dvs]
  | x :: xs, vs => by
    show Dvs K H (.int x :: intD xs) vs ↔ vs = V.int x :: intV xs
    rw [Dvs]
    constructor
    · rintro ⟨v, r, rfl, h1, h2⟩
      rw [dv_int.mp h1, dvs_intD.mp h2]
    · rintro rfl
      exact ⟨_, _, rfl, dv_int.mpr rfl, dvs_intD.mpr rfl⟩
theorem v_neE {p : Addr} {ds : List PyData} {e : Addr} (h1 : Dv K H (.list ds) (.ref p)) (h2 : H e = some (.lst [])) (h : Q (.bl (!ds.isEmpty)) H) : rNeA K (.ref p) (.ref e) H Q := by
  refine v_neM h1 (e := .list []) (dv_list.mpr ⟨e, [], rfl, SqL.of h2, dvs_nil⟩) ?_ ?_
  · exact Nat.le_trans (Nat.min_le_right _ _) (by decide)
  · cases ds <;> exact h
theorem v_eqE {p : Addr} {ds : List PyData} {e : Addr} (h1 : Dv K H (.list ds) (.ref p)) (h2 : H e = some (.lst [])) (h : Q (.bl ds.isEmpty) H) : rEqA K (.ref p) (.ref e) H Q := by
  refine v_eqM h1 (e := .list []) (dv_list.mpr ⟨e, [], rfl, SqL.of h2, dvs_nil⟩) ?_ ?_
  · exact Nat.le_trans (Nat.min_le_right _ _) (by decide)
  · cases ds <;> exact h
theorem But.two {d k : Addr} {H H' : Hp} (b : But [d, k] H H') {xs ys : List V} (h1 : H d = some (.lst xs)) (h2 : H k = some (.lst ys)) : TupK H H' :=
  ⟨fun c zs e => b c _ e (by simp; exact ⟨(by rintro rfl; rw [h1] at e; cases e), (by rintro rfl; rw [h2] at e; cases e)⟩),
   fun c o zs e => b c _ e (by simp; exact ⟨(by rintro rfl; rw [h1] at e; cases e), (by rintro rfl; rw [h2] at e; cases e)⟩)⟩
theorem Mv.two {d : Addr} {H H' : Hp} (k : Addr) (a : Mv d H H') : But [d, k] H H' := But.mono a.but (by simp)
theorem Same.two {H H' : Hp} (d k : Addr) (a : Same H H') : But [d, k] H H' := fun b o e _ => a b o e
theorem Dk.lst {d : Addr} (h : Dk H d) : ∃ xs, H d = some (.lst xs) := let ⟨ns, h, _⟩ := h; ⟨_, h⟩
theorem Dk.same {d : Addr} {H H' : Hp} (h : Dk H d) (s : Same H H') : Dk H' d := let ⟨ns, h, r⟩ := h; ⟨ns, s _ _ h, r⟩
theorem Dk.put {d p : Addr} {H : Hp} (h : Dk H d) (n : p ≠ d) (o : HO) : Dk (upd H p o) d := let ⟨ns, h, r⟩ := h; ⟨ns, by rw [upd_ne (Ne.symm n)]; exact h, r⟩
theorem none_of {H H' : Hp} {p : Addr} (s : Same H H') (h : H' p = none) : H p = none := by
  cases e : H p with
  | none => rfl
  | some o => have := s _ _ e; rw [h] at this; cases this
theorem none_mv {d : Addr} {H H' : Hp} {p : Addr} (s : Mv d H H') (h0 : Dk H d) (h : H' p = none) : H p = none := by
  cases e : H p with
  | none => rfl
  | some o =>
    by_cases n : p = d
    · subst n; obtain ⟨ns, h1, _⟩ := s.dk; rw [h] at h1; cases h1
    · have := s.at e n; rw [h] at this; cases this
end My
namespace My
open PySem L2
variable {K : PySem.W.Frag} {vs : List V} {H : Hp} {Q : VK} {E : XK}
inductive Tr where
  | tx (s : Str)
  | nd (n : Str) (ps : List Tr)
mutual
def Tr.da : Tr → PyData
  | .tx s => .str s
  | .nd n ps => .tuple [.str n, .tuple (Tr.das ps)]
def Tr.das : List Tr → List PyData
  | [] => []
  | t :: ts => t.da :: Tr.das ts
end
theorem das_map : ∀ ts : List Tr, Tr.das ts = ts.map Tr.da
  | [] => by rw [Tr.das]; rfl
  | t :: ts => by rw [Tr.das, das_map ts]; rfl
mutual
theorem da_fix : ∀ t : Tr, fix t.da = true
  | .tx s => by rw [Tr.da, fix]
  | .nd n ps => by rw [Tr.da, fix, fixs, fix, fixs, fix, fixs, das_fix ps]; rfl
theorem das_fix : ∀ ts : List Tr, fixs (Tr.das ts) = true
  | [] => by rw [Tr.das, fixs]
  | t :: ts => by rw [Tr.das, fixs, da_fix t, das_fix ts]; rfl
end
def Tr.isTx : Tr → Bool
  | .tx _ => true
  | .nd _ _ => false
def Tr.kids : Tr → List Tr
  | .tx _ => []
  | .nd _ ps => ps
mutual
def pre (pl : List Int) : Tr → List (List Int × Tr)
  | .tx s => [(pl, .tx s)]
  | .nd n ps => (pl, .nd n ps) :: pres pl 0 ps
def pres (pl : List Int) (k : Nat) : List Tr → List (List Int × Tr)
  | [] => []
  | t :: ts => pre (pl ++ [(k : Int)]) t ++ pres pl (k + 1) ts
end
mutual
def wt : Tr → Nat
  | .tx s => 1 + s.length
  | .nd _ ps => 1 + wts ps
def wts : List Tr → Nat
  | [] => 0
  | t :: ts => wt t + wts ts
end
theorem intD_fix : ∀ ns : List Int, fixs (intD ns) = true
  | [] => by show fixs [] = true; rw [fixs]
  | x :: xs => by show fixs (.int x :: intD xs) = true; rw [fixs, intD_fix xs, fix]; rfl
theorem fixs_map {α : Type} {f : α → PyData} (h : ∀ x, fix (f x) = true) : ∀ l : List α, fixs (l.map f) = true
  | [] => by show fixs [] = true; rw [fixs]
  | x :: l => by show fixs (f x :: l.map f) = true; rw [fixs, h, fixs_map h l]; rfl
theorem tr_parts {n : Str} {ps : List Tr} {v : V} (h : Dv K H (Tr.nd n ps).da v) : ∃ a b us, v = .ref a ∧ SqT K H a [.str n, .ref b] ∧ SqT K H b us ∧ Dvs K H (Tr.das ps) us := by
  rw [Tr.da] at h
  obtain ⟨a, xs, rfl, ha, h⟩ := dv_tuple.mp h
  rw [Dvs] at h; obtain ⟨v1, r1, rfl, e1, h⟩ := h
  rw [Dvs] at h; obtain ⟨v2, r2, rfl, e2, h⟩ := h
  rw [Dvs] at h; subst h
  rw [dv_str.mp e1] at ha
  obtain ⟨b, ys, rfl, hb, h⟩ := dv_tuple.mp e2
  exact ⟨a, b, ys, rfl, ha, hb, h⟩
theorem tr_tx {s : Str} {v : V} (h : Dv K H (Tr.tx s).da v) : v = .str s := by rw [Tr.da] at h; exact dv_str.mp h
theorem das_get {ts : List Tr} {us : List V} (h : Dvs K H (Tr.das ts) us) {i : Nat} {t : Tr} (e : ts[i]? = some t) : ∃ u, us[i]? = some u ∧ Dv K H t.da u :=
  h.get (by rw [das_map, List.getElem?_map, e]; rfl)
theorem das_len {ts : List Tr} {us : List V} (h : Dvs K H (Tr.das ts) us) : us.length = ts.length := by have := h.length; rw [das_map, List.length_map] at this; exact this
theorem isi_tr {t : Tr} {v : V} (h : Dv K H t.da v) (q : Q (.bl t.isTx) H) : rIsi K [v, .ty "str"] H Q := by
  cases t with
  | tx s => rw [tr_tx h]; exact v_isi (.str _) (b := true) rfl q
  | nd n ps => obtain ⟨a, b, us, rfl, ha, _⟩ := tr_parts h; exact v_isiT ha (b := false) rfl q
def sp_is_text (K : PySem.W.Frag) : Sp := fun vs H Q _ => ∃ (t : Tr) (v : V), vs = [v] ∧ Dv K H t.da v ∧ Q (.bl t.isTx) H
theorem len_is_text (K : PySem.W.Frag) : ∀ vs H Q E, sp_is_text K vs H Q E → vs.length = ["part"].length := by rintro vs H Q E ⟨t, v, rfl, _⟩; rfl
def R_is_text (K : PySem.W.Frag) : TS :=
 (tRet (tCB (rIsi K) (tCons (tVar 0) (tCons (tC (.ty "str")) tNil))))
theorem rd_is_text (h : sp_is_text K vs H Q E) : R_is_text K { nx := fun _ H' => Q .non H', rt := Q } (start ["part"] vs) H := by
  obtain ⟨t, v, rfl, hd, q⟩ := h
  show R_is_text K _ [some v] H
  unfold R_is_text
  walk_at "step"
  exact isi_tr hd q
def sp_parts_of (K : PySem.W.Frag) : Sp := fun vs H Q _ => ∃ (t : Tr) (v : V), vs = [v] ∧ Dv K H t.da v ∧ ∀ (p : Addr) (us : List V) (H' : Hp), Same H H' → SqT K H' p us → Dvs K H' (Tr.das t.kids) us → Q (.ref p) H'
theorem len_parts_of (K : PySem.W.Frag) : ∀ vs H Q E, sp_parts_of K vs H Q E → vs.length = ["part"].length := by rintro vs H Q E ⟨t, v, rfl, _⟩; rfl
def R_parts_of (K : PySem.W.Frag) : TS :=
 (tRet (tIf (tB (tCall (sp_is_text K) [] E0 (tCons (tVar 0) tNil))) (tTup tNil) (tOp (rIxA K) (tVar 0) (tC (.int 1)))))
theorem rd_parts_of (h : sp_parts_of K vs H Q E) : R_parts_of K { nx := fun _ H' => Q .non H', rt := Q } (start ["part"] vs) H := by
  obtain ⟨t, v, rfl, hd, q⟩ := h
  show R_parts_of K _ [some v] H
  unfold R_parts_of
  walk_at "step"
  refine ⟨t, v, rfl, hd, ?_⟩
  walk_at "step"
  cases t with
  | tx s =>
    refine iteT ?_
    walk_at "step"
    exact ⟨sl64 (by simp), fun p hp => q p [] _ (Same.new hp _) (SqT.of upd_same) (by show Dvs K _ (Tr.das []) []; rw [Tr.das]; exact dvs_nil)⟩
  | nd n ps =>
    obtain ⟨a, b, us, rfl, ha, hb, hu⟩ := tr_parts hd
    refine iteF ?_
    walk_at "step"
    refine v_ixT ha (v := .ref b) rfl ?_
    exact q b us H (fun _ _ e => e) hb hu
theorem Row.fix (r : Row) : L2.fix r.da = true := by
  unfold Row.da
  have hs : ∀ xs : List Str, fixs (sDa xs) = true := fun xs => fixs_map (f := PyData.str) (fun x => by rw [L2.fix]) xs
  rw [L2.fix, fixs, fixs, fixs, fixs, fixs, fixs, L2.fix, L2.fix, L2.fix, L2.fix, L2.fix, hs, hs]; rfl
theorem ins_dvs {ds : List PyData} {d : PyData} {us : List V} {u : V} {k : Nat} (h : Dvs K H ds us) (hd : Dv K H d u) (hk : k ≤ us.length) : Dvs K H (insAt ds k d) (insAt us k u) := by
  have hl := h.length
  refine dvs_iff_get ?_ ?_
  · unfold insAt; simp; omega
  · intro i e v he hv
    unfold insAt at he hv
    have ld : (ds.take k).length = k := by rw [List.length_take]; omega
    have lu : (us.take k).length = k := by rw [List.length_take]; omega
    by_cases h1 : i < k
    · rw [List.getElem?_append_left (by omega), List.getElem?_take_of_lt h1] at he
      rw [List.getElem?_append_left (by omega), List.getElem?_take_of_lt h1] at hv
      obtain ⟨v', hv', dv'⟩ := h.get he
      rw [hv] at hv'; cases hv'; exact dv'
    · rw [List.getElem?_append_right (by omega), ld] at he
      rw [List.getElem?_append_right (by omega), lu] at hv
      by_cases h2 : i = k
      · subst h2
        rw [Nat.sub_self] at he hv
        cases he; cases hv; exact hd
      · obtain ⟨j, rfl⟩ : ∃ j, i = k + 1 + j := ⟨i - (k + 1), by omega⟩
        rw [show k + 1 + j - k = j + 1 by omega, List.getElem?_cons_succ, List.getElem?_drop] at he hv
        obtain ⟨v', hv', dv'⟩ := h.get he
        rw [hv] at hv'; cases hv'; exact dv'
theorem insAt_map {α β : Type} (f : α → β) (l : List α) (k : Nat) (x : α) : (insAt l k x).map f = insAt (l.map f) k (f x) := by unfold insAt; simp
theorem insAt_len {α : Type} (l : List α) (k : Nat) (x : α) (h : k ≤ l.length) : (insAt l k x).length = l.length + 1 := by unfold insAt; simp; omega
theorem insAt_mem {α : Type} {l : List α} {k : Nat} {x y : α} (h : y ∈ insAt l k x) : y = x ∨ y ∈ l := by
  unfold insAt at h
  rcases List.mem_append.mp h with h | h
  · exact .inr (List.mem_of_mem_take h)
  · rcases List.mem_cons.mp h with h | h
    · exact .inl h
    · exact .inr (List.mem_of_mem_drop h)
theorem da_nd {n : Str} {ps : List Tr} {r t : Addr} {us : List V} (h1 : SqT K H r [.str n, .ref t]) (h2 : SqT K H t us) (h3 : Dvs K H (Tr.das ps) us) : Dv K H (Tr.nd n ps).da (.ref r) := by
  rw [Tr.da]
  exact dv_tuple.mpr ⟨r, _, rfl, h1, dvs_cons (dv_str.mpr rfl) (dvs_cons (dv_tuple.mpr ⟨t, us, rfl, h2, h3⟩) dvs_nil)⟩
theorem da_tx (s : Str) : Dv K H (Tr.tx s).da (.str s) := by rw [Tr.da]; exact dv_str.mpr rfl
mutual
def hgt : Tr → Nat
  | .tx _ => 0
  | .nd _ ps => 1 + hgts ps
def hgts : List Tr → Nat
  | [] => 0
  | t :: ts => max (hgt t) (hgts ts)
end
theorem wts_app : ∀ a b : List Tr, wts (a ++ b) = wts a + wts b
  | [], b => by rw [List.nil_append, wts, Nat.zero_add]
  | t :: a, b => by rw [List.cons_append, wts, wts, wts_app a b]; omega
theorem hgts_app : ∀ a b : List Tr, hgts (a ++ b) = max (hgts a) (hgts b)
  | [], b => by rw [List.nil_append, hgts]; omega
  | t :: a, b => by rw [List.cons_append, hgts, hgts, hgts_app a b]; omega
mutual
theorem pre_h (pl : List Int) : ∀ (t : Tr) (p : List Int × Tr), p ∈ pre pl t → p.1.length ≤ pl.length + hgt t
  | .tx s, p, h => by rw [pre, List.mem_singleton] at h; subst h; show pl.length ≤ _; omega
  | .nd n ps, p, h => by
    rw [pre, List.mem_cons] at h
    rw [hgt]
    rcases h with rfl | h
    · show pl.length ≤ _; omega
    · have := pres_h pl 0 ps p h; omega
theorem pres_h (pl : List Int) (k : Nat) : ∀ (ts : List Tr) (p : List Int × Tr), p ∈ pres pl k ts → p.1.length ≤ pl.length + 1 + hgts ts
  | [], p, h => by rw [pres] at h; cases h
  | t :: ts, p, h => by
    rw [pres, List.mem_append] at h
    rw [hgts]
    rcases h with h | h
    · have := pre_h _ t p h; rw [List.length_append, List.length_singleton] at this; omega
    · have := pres_h pl (k + 1) ts p h; omega
end
end My
namespace My
open PySem L2
variable {K : PySem.W.Frag} {vs : List V} {H : Hp} {Q : VK} {E : XK}
@[reducible] def T__law_numbers_0 (K : PySem.W.Frag) : TS :=
 (tAsg (tOp (rI CDiv fun i j => .int (i / j)) (tOp (rIxA K) (tVar 2) (tC (.int 0))) (tC (.int 2))) (gSub (tVar 2) (tC (.int 0)) rSetA))
@[reducible] def T__law_numbers_1 (K : PySem.W.Frag) : TS :=
 (tSeq (tAsg (tOp (rI (fun _ j => 0 < j) fun i j => .int (i % j)) (tOp (rIxA K) (tVar 2) (tC (.int 0))) (tC (.int 2))) (gName 3))
 (T__law_numbers_0 K))
@[reducible] def T__law_numbers_2 (K : PySem.W.Frag) : TS :=
 (tSeq (tAsg (tOp (rI (fun _ j => 0 < j) fun i j => .int (i % j)) (tOp (rAddA K) (tOp (rAddA K) (tOp rMulA (tVar 4) (tVar 4)) (tOp rMulA (tC (.int 69621)) (tVar 4))) (tC (.int 7))) (tC (.int 2147483629))) (gName 4))
 (tDrop (tBM K "list" rAppend (tVar 2) (tCons (tVar 4) tNil))))
@[reducible] def T__law_numbers_3 (K : PySem.W.Frag) : TS :=
 (tSeq (tAsg (tOp (rI (fun _ j => 0 < j) fun i j => .int (i % j)) (tOp (rAddA K) (tOp (rAddA K) (tOp rMulA (tVar 4) (tVar 4)) (tOp rMulA (tC (.int 48271)) (tVar 4))) (tCB (rLenA K) (tCons (tVar 2) tNil))) (tC (.int 2147483647))) (gName 4))
 (T__law_numbers_2 K))
@[reducible] def T__law_numbers_4 (K : PySem.W.Frag) : TS :=
 (tSeq (tWhile (tTest (tOp rLtA (tCB (rLenA K) (tCons (tVar 2) tNil)) (tVar 1)))
 (T__law_numbers_3 K))
 (tRet (tOp (rAddA K) (tLst (tCons (tVar 3) tNil)) (tRev3 K (tVar 2)))))
def numT (K : PySem.W.Frag) : TS :=
 (tSeq (tAsg (tOp (rAddA K) (tC (.int 48271)) (tOp (rI (fun _ j => 0 < j) fun i j => .int (i % j)) (tCB (r_sum K) (tCons (tVar 2) tNil)) (tC (.int 2147483647)))) (gName 4))
 (T__law_numbers_4 K))
@[reducible] def T__law_name_0 (K : PySem.W.Frag) : TS :=
 (tRet (tOp rMulA (tOp (rIxA K) (tVar 2) (tOp (rI (fun _ j => 0 < j) fun i j => .int (i % j)) (tOp (rAddA K) (tVar 3) (tOp (rI CDiv fun i j => .int (i / j)) (tVar 1) (tC (.int 8)))) (tC (.int 26)))) (tOp (rAddA K) (tC (.int 1)) (tOp (rI (fun _ j => 0 < j) fun i j => .int (i % j)) (tVar 1) (tC (.int 8))))))
def nameT (K : PySem.W.Frag) : TS :=
 (tAsg (tOp (rAddA K) (tVar 6) (tOp (rIxA K) (tVar 2) (tOp (rI (fun _ j => 0 < j) fun i j => .int (i % j)) (tOp (rAddA K) (tVar 3) (tVar 8)) (tC (.int 26))))) (gName 6))
@[reducible] def T__law_numbers_6 (K : PySem.W.Frag) : TS :=
 (tSeq (tIfS (tTest (tOp (rNeA K) (tVar 2) (tLst tNil)))
 (T__law_numbers_1 K) tNext)
 (numT K))
def sp__law_numbers (K : PySem.W.Frag) : Sp := fun vs H Q _ => ∃ (a : Addr) (ns : List Int) (m : Nat), vs = [.ref a, .int m] ∧ SqL K H a (intV ns) ∧ m ≤ 900 ∧ ∀ (d : Addr) (H' : Hp), Same H H' → H d = none → Dk H' d → Q (.ref d) H'
theorem len__law_numbers (K : PySem.W.Frag) : ∀ vs H Q E, sp__law_numbers K vs H Q E → vs.length = ["_law_script", "_law_most"].length := by rintro vs H Q E ⟨a, ns, m, rfl, _⟩; rfl
def R__law_numbers (K : PySem.W.Frag) : TS :=
 (tSeq (tAsg (tCB (rListA K) (tCons (tSl (rSlA K) (tVar 0) tNoPart (tPart (tC (.int 63)))) tNil)) (gName 2))
 (tSeq (tAsg (tC (.int 0)) (gName 3))
 (T__law_numbers_6 K)))
theorem rd__law_numbers (h : sp__law_numbers K vs H Q E) : R__law_numbers K { nx := fun _ H' => Q .non H', rt := Q } (start ["_law_script", "_law_most", "_law_deck", "_law_kind", "_law_last"] vs) H := by
  obtain ⟨sc, ns, m, rfl, hS, hm, q⟩ := h
  show R__law_numbers K _ [some (.ref sc), some (.int m), none, none, none] H
  unfold R__law_numbers
  walk_at "step"
  refine v_slL hS fun p hp => ?_
  walk_at "step"
  obtain ⟨ms, ems, hms⟩ : ∃ ms : List Int, cutV (intV ns) none (some 63) = intV ms ∧ ms.length ≤ 63 := by
    refine ⟨ns.take 63, ?_, by rw [List.length_take]; omega⟩
    have : cutV (intV ns) none (some 63) = (intV ns).take 63 := by
      unfold cutV
      show ((intV ns).drop 0).take (HT.sIx (intV ns).length (intV ns).length (some 63) - 0) = _
      rw [List.drop_zero, Nat.sub_zero]
      unfold HT.sIx
      simp only []
      by_cases h : (intV ns).length ≤ 63
      · rw [List.take_of_length_le h, List.take_of_length_le]
        simp; omega
      · congr 1
        simp; omega
    rw [this]; unfold intV; rw [List.map_take]
  rw [ems]
  refine ⟨p, _, rfl, .inl (SqL.of upd_same), fun d hd => ?_⟩
  have s1 : Same H (upd (upd H p (.lst (intV ms))) d (.lst (intV ms))) := Same.tr (Same.new hp _) (Same.new hd _)
  have hd1 : (upd (upd H p (.lst (intV ms))) d (.lst (intV ms))) d = some (.lst (intV ms)) := upd_same
  have hd0 : H d = none := by
    cases e : H d with
    | none => rfl
    | some o => have := Same.new hp (.lst (intV ms)) _ _ e; rw [hd] at this; cases this
  generalize upd (upd H p (.lst (intV ms))) d (.lst (intV ms)) = H1 at *
  walk_at "step"
  refine ⟨sl64 (by simp), fun e he => ?_⟩
  have hd2 : (upd H1 e (.lst [])) d = some (.lst (intV ms)) := by rw [upd_ne (ne_free hd1 he)]; exact hd1
  have s2 : Same H (upd H1 e (.lst [])) := Same.tr s1 (Same.new he _)
  have he2 : (upd H1 e (.lst [])) e = some (.lst []) := upd_same
  generalize upd H1 e (.lst []) = H2 at *
  refine v_neE (ds := intD ms) (dv_list.mpr ⟨d, _, rfl, SqL.of hd2, dvs_intD.mpr rfl⟩) he2 ?_
  walk_at "step"
  have fin : ∀ (ms : List Int) (kind : Int) (H2 : Hp), Same H H2 → H2 d = some (.lst (intV ms)) → ms.length ≤ 63 → (numT K) { nx := fun _ H' => Q .non H', rt := Q } [some (.ref sc), some (.int m), some (.ref d), some (.int kind), none] H2 := by
    clear hd1 hd2 s1 s2 he2 ems
    intro ms kind H2 s2 hd2 hms
    unfold numT
    walk_at "step"
    refine v_sum (js := ms) (SqL.of hd2) fun j => ?_
    walk_at "step"
    have j0 := Int.emod_nonneg j (show (2147483647 : Int) ≠ 0 by decide)
    have j1 := Int.emod_lt_of_pos j (show (0 : Int) < 2147483647 by decide)
    generalize hL : 48271 + j % 2147483647 = L at *
    let Pv0 : St → Hp → Prop := fun σ H' => ∃ (L : Int) (ms : List Int), σ = [some (.ref sc), some (.int m), some (.ref d), some (.int kind), some (.int L)] ∧ Same H H' ∧ H' d = some (.lst (intV ms)) ∧ ms.length ≤ 900 ∧ 0 ≤ L ∧ L < 2 ^ 40
    refine while_raw Pv0
      (fun σ H' => match H' d with | some (.lst us) => m - us.length | _ => 0) ⟨L, ms, rfl, s2, hd2, by omega, by omega, by omega⟩ ?_
    rintro σ H' ⟨L, ms, rfl, s1, h1, hl, l0, l1⟩
    walk_at "step"
    refine v_lenQ (.inl (SqL.of h1)) ?_
    rw [intV_len]
    walk_at "step"
    by_cases hlt : ((ms.length : Nat) : Int) < (m : Int)
    · rw [decide_eq_true hlt]
      refine iteT ?_
      let Nv1 : St → Hp → Prop := fun σ' H'' => ∃ (L : Int) (ms' : List Int), σ' = [some (.ref sc), some (.int m), some (.ref d), some (.int kind), some (.int L)] ∧ Same H H'' ∧ H'' d = some (.lst (intV ms')) ∧ ms'.length = ms.length + 1 ∧ 0 ≤ L ∧ L < 2 ^ 40
      refine ⟨Nv1, ?_, ?_⟩
      · rintro σ' H'' ⟨L', ms', rfl, s1', h1', hl', l0', l1'⟩
        refine ⟨_, ?_, rfl, L', ms', rfl, s1', h1', by omega, l0', l1'⟩
        dsimp only
        rw [h1, h1']
        dsimp only
        rw [intV_len, intV_len]
        omega
      · walk_at "step"
        refine v_mulI (.inl ⟨by omega, by omega⟩) ?_
        walk_at "step"
        refine v_mulI (.inl ⟨by decide, by decide⟩) ?_
        walk_at "step"
        refine v_lenQ (.inl (SqL.of h1)) ?_
        walk_at "step"
        generalize hX : (L * L + 48271 * L + ((intV ms).length : Int)) % 2147483647 = Y
        have y0 : 0 ≤ Y := by rw [← hX]; exact Int.emod_nonneg _ (by decide)
        have y1 : Y < 2147483647 := by rw [← hX]; exact Int.emod_lt_of_pos _ (by decide)
        refine v_mulI (.inl ⟨by omega, by omega⟩) ?_
        walk_at "step"
        refine v_mulI (.inl ⟨by decide, by decide⟩) ?_
        walk_at "step"
        generalize hX2 : (Y * Y + 69621 * Y + 7) % 2147483629 = Z
        have z0 : 0 ≤ Z := by rw [← hX2]; exact Int.emod_nonneg _ (by decide)
        have z1 : Z < 2147483629 := by rw [← hX2]; exact Int.emod_lt_of_pos _ (by decide)
        refine ⟨.inl ⟨rfl, _, SqL.of h1⟩, ?_⟩
        walk_at "step"
        refine v_append h1 (by rw [intV_len, sizeLine_eq]; omega) ?_
        exact ⟨Z, ms ++ [Z], rfl, Same.put s1 hd0 _, by rw [← intV_app]; exact upd_same, by simp, z0, by omega⟩
    · rw [decide_eq_false hlt]
      refine iteF ?_
      walk_at "step"
      refine ⟨sl64 (by simp), fun x hx => ?_⟩
      walk_at "step"
      have hd3 : (upd H' x (.lst [.int kind])) d = some (.lst (intV ms)) := by rw [upd_ne (ne_free h1 hx)]; exact h1
      refine ⟨d, _, rfl, SqL.of hd3, fun y hy => ?_⟩
      have hx4 : (upd (upd H' x (.lst [.int kind])) y (.lst (intV ms).reverse)) x = some (.lst [.int kind]) := by rw [upd_ne (ne_free upd_same hy)]; exact upd_same
      refine v_cat hx4 upd_same (by rw [List.length_reverse, intV_len]; exact sl64 (by simp; omega)) fun r hr => ?_
      have sx : Same H (upd (upd (upd H' x (.lst [.int kind])) y (.lst (intV ms).reverse)) r (.lst ([.int kind] ++ (intV ms).reverse))) := Same.tr s1 (Same.tr (Same.new hx _) (Same.tr (Same.new hy _) (Same.new hr _)))
      have hr0 : H r = none := by
        cases e : H r with
        | none => rfl
        | some o => have := Same.tr s1 (Same.tr (Same.new hx (.lst [.int kind])) (Same.new hy (.lst (intV ms).reverse))) _ _ e; rw [hr] at this; cases this
      refine q r _ sx hr0 ⟨kind :: ms.reverse, ?_, by simp, by simp; omega⟩
      rw [upd_same]
      simp [intV]
  cases ms with
  | nil =>
    refine iteF ?_
    walk_at "step"
    exact fin [] 0 H2 s2 hd2 (by simp)
  | cons y ys =>
    refine iteT ?_
    walk_at "step"
    refine v_ixL (SqL.of hd2) (v := .int y) (atI_nat (j := 0) rfl) ?_
    walk_at "step"
    refine v_ixL (SqL.of hd2) (v := .int y) (atI_nat (j := 0) rfl) ?_
    walk_at "step"
    refine .inl (v_setL hd2 (j := 0) (ixN_0 (by simp [intV])) ?_)
    walk_at "step"
    exact fin ((y / 2) :: ys) _ _ (Same.put s2 hd0 _) (by rw [upd_same]; simp [intV]) (by simpa using hms)
@[reducible] def T__law_draw_0 (K : PySem.W.Frag) : TS :=
 (tDrop (tBM K "list" rAppend (tVar 0) (tCons (tOp (rI CDivW fun i j => .int (i / j)) (tVar 2) (tVar 1)) tNil)))
@[reducible] def T__law_draw_1 (K : PySem.W.Frag) : TS :=
 (tSeq (tIfS (tAnd (tTest (tOp (rEqA K) (tOp (rIxA K) (tVar 0) (tC (.int 0))) (tC (.int 1)))) (tTest (tOp (rNeA K) (tOp (rI CDivW fun i j => .int (i / j)) (tVar 2) (tVar 1)) (tC (.int 0)))))
 (T__law_draw_0 K) tNext)
 (tRet (tOp (rI (fun _ j => 0 < j) fun i j => .int (i % j)) (tVar 2) (tVar 1))))
def sp__law_draw (K : PySem.W.Frag) : Sp := fun vs H Q _ => ∃ (d : Addr) (m : Int), vs = [.ref d, .int m] ∧ 0 < m ∧ m < 2 ^ 200 ∧ Dk H d ∧ ∀ (n : Int) (H' : Hp), 0 ≤ n → n < m → Mv d H H' → Q (.int n) H'
theorem len__law_draw (K : PySem.W.Frag) : ∀ vs H Q E, sp__law_draw K vs H Q E → vs.length = ["_law_deck", "_law_most"].length := by rintro vs H Q E ⟨d, m, rfl, _⟩; rfl
def R__law_draw (K : PySem.W.Frag) : TS :=
 (tSeq (tIfS (tTest (tOp (rEqA K) (tCB (rLenA K) (tCons (tVar 0) tNil)) (tC (.int 1))))
 (tRet (tC (.int 0))) tNext)
 (tSeq (tAsg (tBM0 K "list" rPop (tVar 0)) (gName 2))
 (T__law_draw_1 K)))
theorem rd__law_draw (h : sp__law_draw K vs H Q E) : R__law_draw K { nx := fun _ H' => Q .non H', rt := Q } (start ["_law_deck", "_law_most", "_law_number"] vs) H := by
  obtain ⟨d, m, rfl, h0, h1, ⟨ns, hd, hl, hz⟩, q⟩ := h
  show R__law_draw K _ [some (.ref d), some (.int m), none] H
  unfold R__law_draw
  walk_at "step"
  refine v_lenQ (.inl (SqL.of hd)) ?_
  rw [intV_len]
  walk_at "step"
  by_cases e1 : ((ns.length : Nat) : Int) = 1
  · rw [decide_eq_true e1]; refine iteT ?_
    walk_at "step"
    exact q 0 H (by decide) h0 (Mv.refl ⟨ns, hd, hl, hz⟩)
  · rw [decide_eq_false e1]; refine iteF ?_
    obtain ⟨x, xs, y, rfl⟩ : ∃ x xs y, ns = x :: (xs ++ [y]) := by
      cases ns with
      | nil => simp at hl
      | cons x r =>
        have hr : r ≠ [] := fun z => by rw [z] at e1; exact e1 rfl
        exact ⟨x, r.dropLast, r.getLast hr, by rw [List.dropLast_concat_getLast hr]⟩
    walk_at "step"
    refine ⟨.inl ⟨rfl, _, SqL.of hd⟩, ?_⟩
    have hd' : H d = some (.lst (intV (x :: xs) ++ [.int y])) := by rw [hd]; simp [intV]
    refine v_pop hd' ?_
    walk_at "step"
    have b1 : But [d] H (upd H d (.lst (intV (x :: xs)))) := But.upd (by simp) _
    have hd2 : (upd H d (.lst (intV (x :: xs)))) d = some (.lst (intV (x :: xs))) := upd_same
    have n0 := Int.emod_nonneg y (show m ≠ 0 by omega)
    have n1 := Int.emod_lt_of_pos y h0
    have dk1 : Dk (upd H d (.lst (intV (x :: xs)))) d := ⟨x :: xs, hd2, by simp, by simp at hz ⊢; omega⟩
    refine v_ixL (SqL.of hd2) (v := .int x) (atI_nat (j := 0) rfl) ?_
    walk_at "step"
    by_cases ex : x = 1
    · rw [decide_eq_true ex]; refine iteT ?_
      walk_at "step"
      refine v_fdivW ⟨h0, h1⟩ ?_
      walk_at "step"
      by_cases ez : y / m = 0
      · rw [decide_eq_true ez]; refine iteF ?_
        walk_at "step"
        exact q _ _ n0 n1 ⟨b1, dk1⟩
      · rw [decide_eq_false ez]; refine iteT ?_
        walk_at "step"
        refine ⟨.inl ⟨rfl, _, SqL.of hd2⟩, ?_⟩
        walk_at "step"
        refine v_fdivW ⟨h0, h1⟩ ?_
        walk_at "step"
        refine v_append hd2 (by rw [intV_len, sizeLine_eq]; simp at hz ⊢; omega) ?_
        walk_at "step"
        refine q _ _ n0 n1 ⟨But.tr b1 (But.upd (by simp) _), (x :: xs) ++ [y / m], ?_, by simp, by simp at hz ⊢; omega⟩
        rw [upd_same, intV_app]
    · rw [decide_eq_false ex]; refine iteF ?_
      refine iteF ?_
      walk_at "step"
      exact q _ _ n0 n1 ⟨b1, dk1⟩
def nmG (c k : Int) (j : Nat) : Nat := 97 + ((c / 64 % 26 + (if (j : Int) = c / 8 % (1 + c % 8) then c / 1664 % 3 * j + k else c / 1664 % 3 * j)) % 26).toNat
def nameL (c k : Int) : List Nat :=
  if c / 1664 % 3 = 2 then List.replicate (1 + k % 8).toNat (97 + ((c / 64 % 26 + k / 8) % 26).toNat)
  else (List.range (1 + c % 8).toNat).map (nmG c k)
def nameF (c k : Int) : Str := ⟨(nameL c k).toArray⟩
theorem nameL_len (c k : Int) : (nameL c k).length = if c / 1664 % 3 = 2 then (1 + k % 8).toNat else (1 + c % 8).toNat := by
  unfold nameL
  split <;> simp
theorem nameF_len (c k : Int) : 1 ≤ (nameF c k).length ∧ (nameF c k).length ≤ 8 := by
  have e : (nameF c k).length = (nameL c k).length := by show (nameL c k).toArray.size = _; simp
  rw [e, nameL_len]
  split <;> omega
theorem nameF_ne (c k : Int) : nameF c k ≠ ("" : Str) := fun e => by
  have := (nameF_len c k).1
  rw [e] at this
  exact absurd this (by decide)
theorem nameF_inj {c i j : Int} (h0 : 0 ≤ i) (h1 : i < 8) (h2 : 0 ≤ j) (h3 : j < 8) (e : nameF c i = nameF c j) : i = j := by
  have e : nameL c i = nameL c j := by
    have := congrArg (fun s : Str => s.cps.toList) e
    simpa [nameF] using this
  by_cases h : c / 1664 % 3 = 2
  · have := congrArg List.length e
    rw [nameL_len, nameL_len, if_pos h, if_pos h] at this
    omega
  · unfold nameL at e
    rw [if_neg h, if_neg h] at e
    unfold nmG at e
    have g0 := Int.emod_nonneg c (show (8 : Int) ≠ 0 by decide)
    have t0 := Int.emod_nonneg (c / 8) (show (1 + c % 8 : Int) ≠ 0 by omega)
    have t1 := Int.emod_lt_of_pos (c / 8) (show (0 : Int) < 1 + c % 8 by omega)
    generalize c / 8 % (1 + c % 8) = t at *
    have := congrArg (fun l : List Nat => l[t.toNat]?) e
    simp only [List.getElem?_map, List.getElem?_range (show t.toNat < (1 + c % 8).toNat by omega), Option.map_some, Option.some.injEq] at this
    have et : ((t.toNat : Nat) : Int) = t := by omega
    rw [if_pos et, if_pos et] at this
    generalize c / 1664 % 3 * (t.toNat : Int) = z at *
    omega
def nmP (c k : Int) (i : Nat) : Str := ⟨((List.range i).map (nmG c k)).toArray⟩
theorem nmP_succ (c k : Int) (i : Nat) : nmP c k i ++ (⟨#[nmG c k i]⟩ : Str) = nmP c k (i + 1) := by
  refine str_ext ?_
  show ((nmP c k i).cps ++ #[nmG c k i]).toList = ((List.range (i + 1)).map (nmG c k)).toArray.toList
  rw [Array.toList_append, List.range_succ, List.map_append]
  rfl
theorem nmP_len (c k : Int) (i : Nat) : (nmP c k i).length = i := by show ((List.range i).map (nmG c k)).toArray.size = i; simp
@[reducible] def T__law_name_2 (K : PySem.W.Frag) : TS :=
 (tSeq (tIfS (tTest (tOp (rEqA K) (tVar 7) (tVar 5)))
 (tAsg (tOp (rAddA K) (tVar 8) (tVar 1)) (gName 8)) tNext)
 (nameT K))
@[reducible] def T__law_name_3 (K : PySem.W.Frag) : TS :=
 (tSeq (tAsg (tOp rMulA (tOp (rI (fun _ j => 0 < j) fun i j => .int (i % j)) (tOp (rI CDiv fun i j => .int (i / j)) (tVar 0) (tC (.int 1664))) (tC (.int 3))) (tVar 7)) (gName 8))
 (T__law_name_2 K))
@[reducible] def T__law_name_4 (K : PySem.W.Frag) : TS :=
 (tSeq (tAsg (tC (.str ("" : Str))) (gName 6))
 (tSeq (tFor (iRng1 (tCons (tVar 4) tNil)) (gName 7)
 (T__law_name_3 K))
 (tRet (tVar 6))))
@[reducible] def T__law_name_5 (K : PySem.W.Frag) : TS :=
 (tSeq (tAsg (tOp (rI (fun _ j => 0 < j) fun i j => .int (i % j)) (tOp (rI CDiv fun i j => .int (i / j)) (tVar 0) (tC (.int 8))) (tVar 4)) (gName 5))
 (T__law_name_4 K))
@[reducible] def T__law_name_6 (K : PySem.W.Frag) : TS :=
 (tSeq (tAsg (tOp (rAddA K) (tC (.int 1)) (tOp (rI (fun _ j => 0 < j) fun i j => .int (i % j)) (tVar 0) (tC (.int 8)))) (gName 4))
 (T__law_name_5 K))
@[reducible] def T__law_name_7 (K : PySem.W.Frag) : TS :=
 (tSeq (tIfS (tTest (tOp (rEqA K) (tOp (rI (fun _ j => 0 < j) fun i j => .int (i % j)) (tOp (rI CDiv fun i j => .int (i / j)) (tVar 0) (tC (.int 1664))) (tC (.int 3))) (tC (.int 2))))
 (T__law_name_0 K) tNext)
 (T__law_name_6 K))
@[reducible] def T__law_name_8 (K : PySem.W.Frag) : TS :=
 (tSeq (tAsg (tOp (rI (fun _ j => 0 < j) fun i j => .int (i % j)) (tOp (rI CDiv fun i j => .int (i / j)) (tVar 0) (tC (.int 64))) (tC (.int 26))) (gName 3))
 (T__law_name_7 K))
def sp__law_name (K : PySem.W.Frag) : Sp := fun vs H Q _ => ∃ c k : Int, vs = [.int c, .int k] ∧ Q (.str (nameF c k)) H
theorem len__law_name (K : PySem.W.Frag) : ∀ vs H Q E, sp__law_name K vs H Q E → vs.length = ["_law_code", "_law_k"].length := by rintro vs H Q E ⟨c, k, rfl, _⟩; rfl
def R__law_name (K : PySem.W.Frag) : TS :=
 (tSeq (tAsg (tC (.str ("abcdefghijklmnopqrstuvwxyz" : Str))) (gName 2))
 (T__law_name_8 K))
theorem rd__law_name (h : sp__law_name K vs H Q E) : R__law_name K { nx := fun _ H' => Q .non H', rt := Q } (start ["_law_code", "_law_k", "_law_letters", "_law_first", "_law_long", "_law_told", "_law_name_here", "_law_j", "_law_step"] vs) H := by
  obtain ⟨c, k, rfl, q⟩ := h
  show R__law_name K _ [some (.int c), some (.int k), none, none, none, none, none, none, none] H
  unfold R__law_name
  walk_at "step"
  have e0 : nameF c k = ⟨(nameL c k).toArray⟩ := rfl
  unfold nameL at e0
  by_cases h2 : c / 1664 % 3 = 2
  · rw [decide_eq_true h2]; refine iteT ?_
    rw [if_pos h2] at e0
    walk_at "step"
    refine v_ixS (sl64 (by rw [show ("abcdefghijklmnopqrstuvwxyz" : Str) = Lt from rfl, lt_len]; decide)) (lt_at (Int.emod_nonneg _ (by decide)) (Int.emod_lt_of_pos _ (by decide))) ?_
    walk_at "step"
    have k0 := Int.emod_nonneg k (show (8 : Int) ≠ 0 by decide)
    have k1 := Int.emod_lt_of_pos k (show (0 : Int) < 8 by decide)
    refine v_mulS (by omega) (by omega) (show (1 : Nat) ≤ 1000 by decide) ?_
    have e1 : PySem.Txt.mul (ch (97 + ((c / 64 % 26 + k / 8) % 26).toNat)) (1 + k % 8) = nameF c k := by
      rw [e0]
      exact str_ext (mul_ch (by omega))
    rw [← e1] at q
    exact q
  · rw [decide_eq_false h2]; refine iteF ?_
    rw [if_neg h2] at e0
    have e0 : nameF c k = nmP c k (1 + c % 8).toNat := e0
    rw [e0] at q
    have hG : ∀ j, nmG c k j = 97 + ((c / 64 % 26 + (if (j : Int) = c / 8 % (1 + c % 8) then c / 1664 % 3 * j + k else c / 1664 % 3 * j)) % 26).toNat := fun _ => rfl
    generalize hf : c / 64 % 26 = f at *
    walk_at "step"
    have g0 := Int.emod_nonneg c (show (8 : Int) ≠ 0 by decide)
    have g1 := Int.emod_lt_of_pos c (show (0 : Int) < 8 by decide)
    generalize hg : (1 : Int) + c % 8 = g at *
    walk_at "step"
    generalize htl : c / 8 % g = tl at *
    let Pv2 : Nat → St → Hp → Prop := fun i σ H' => H' = H ∧ ∃ (a1 a2 : Option V), σ = [some (.int c), some (.int k), some (.str Lt), some (.int f), some (.int g), some (.int tl), some (.str (nmP c k i)), a1, a2]
    refine rng1_for (by omega) (by omega) Pv2 ⟨rfl, _, _, rfl⟩ ?_ ?_
    · rintro i σ H' hi ⟨rfl, a1, a2, rfl⟩
      have m0 := Int.emod_nonneg (c / 1664) (show (3 : Int) ≠ 0 by decide)
      have m1 := Int.emod_lt_of_pos (c / 1664) (show (0 : Int) < 3 by decide)
      walk_at "step"
      refine v_mulI (.inl ⟨by omega, by omega⟩) ?_
      have fin : ∀ (D : Ends) (sv : Int), 97 + ((f + sv) % 26).toNat = nmG c k i → (∀ (a1 a2 : Option V), D.nx [some (.int c), some (.int k), some (.str Lt), some (.int f), some (.int g), some (.int tl), some (.str (nmP c k (i + 1))), a1, a2] H') → (nameT K) D [some (.int c), some (.int k), some (.str Lt), some (.int f), some (.int g), some (.int tl), some (.str (nmP c k i)), some (.int i), some (.int sv)] H' := by
        intro D sv hsv qq
        unfold nameT
        walk_at "step"
        refine v_ixS (sl64 (by rw [lt_len]; decide)) (lt_at (Int.emod_nonneg _ (by decide)) (Int.emod_lt_of_pos _ (by decide))) ?_
        rw [hsv]
        refine v_addS (by rw [nmP_len]; show _ + 1 ≤ _; rw [sizeLine_eq]; omega) ?_
        rw [nmP_succ]
        walk_at "step"
        exact qq _ _
      walk_at "step"
      by_cases et : (i : Int) = tl
      · rw [decide_eq_true et]; refine iteT ?_
        walk_at "step"
        exact fin _ _ (by rw [hG, if_pos et]) fun a1 a2 => ⟨rfl, a1, a2, rfl⟩
      · rw [decide_eq_false et]; refine iteF ?_
        walk_at "step"
        exact fin _ _ (by rw [hG, if_neg et]) fun a1 a2 => ⟨rfl, a1, a2, rfl⟩
    · rintro σ H' ⟨rfl, a1, a2, rfl⟩
      walk_at "step"
      exact q
end My
namespace My
open PySem L2
variable {K : PySem.W.Frag} {vs : List V} {H : Hp} {Q : VK} {E : XK}
def gd (l : List Str) (i : Nat) : Str := l.getD i ("" : Str)
theorem gd_get {l : List Str} {i : Nat} (h : i < l.length) : l[i]? = some (gd l i) := by
  unfold gd; rw [List.getD_eq_getElem?_getD]; simp [h]
theorem gd_end {xs : List Str} {y : Str} : gd (xs ++ [y]) xs.length = y := by
  have h1 := gd_get (l := xs ++ [y]) (i := xs.length) (by simp)
  rw [List.getElem?_append_right (Nat.le_refl _), Nat.sub_self] at h1
  exact (Option.some.inj h1).symm
theorem Rws.same {v : V} {rs : List Row} {H' : Hp} (h : Rws K H v rs) (s : Same H H') : Rws K H' v rs := by
  obtain ⟨a, vs, rfl, hq, hd⟩ := h
  exact ⟨a, vs, rfl, hq.imp s.sqL s.sqT, Dvs.same s _ _ hd⟩
theorem row_some {rs : List Row} {n : Str} {r : Row} (h : rowOf rs (some n) = some r) : r ∈ rs ∧ r.name = n := by
  refine ⟨List.mem_of_find?_eq_some h, ?_⟩
  have := List.find?_some h
  simpa using this
def wall (rs : List Row) (n : Str) : Bool := match rowOf rs (some n) with | none => false | some r => decide (r.sort ∈ [("room" : Str), ("frame" : Str)])
def near (rs : List Row) (ns : List Str) : List Str := ns.foldl (fun acc n => if wall rs n then [] else acc ++ [n]) []
theorem near_snoc (rs : List Row) (ns : List Str) (n : Str) : near rs (ns ++ [n]) = if wall rs n then [] else near rs ns ++ [n] := by
  unfold near; rw [List.foldl_append]; rfl
theorem near_len (rs : List Row) : ∀ (k : Nat) (ns : List Str), ns.length = k → (near rs ns).length ≤ k
  | 0, ns, h => by rw [List.length_eq_zero_iff.mp h]; exact Nat.le_refl _
  | k + 1, ns, h => by
    have hp : ns ≠ [] := fun e => by rw [e] at h; cases h
    rw [← List.dropLast_concat_getLast hp, near_snoc]
    have := near_len rs k ns.dropLast (by rw [List.length_dropLast]; omega)
    split
    · exact Nat.zero_le _
    · rw [List.length_append, List.length_singleton]; omega
def lastOf (ys : List Str) : Str := gd ys (ys.length - 1)
theorem lastOf_snoc (xs : List Str) (y : Str) : lastOf (xs ++ [y]) = y := by
  unfold lastOf
  rw [List.length_append, List.length_singleton, Nat.add_sub_cancel]; exact gd_end
theorem inV_non (xs : List Str) : inV .non (strV xs) = false := by
  induction xs with
  | nil => rfl
  | cons x l ih =>
    unfold inV at ih ⊢
    show (eqV (.str x) .non || (strV l).any fun z => eqV z .non) = false
    rw [ih]; rfl
def sp_is_wall (K : PySem.W.Frag) : Sp := fun vs H Q _ => ∃ v n rs, vs = [v, .str n] ∧ Rws K H v rs ∧ Q (.bl (wall rs n)) H
theorem len_is_wall (K : PySem.W.Frag) : ∀ vs H Q E, sp_is_wall K vs H Q E → vs.length = ["book", "name"].length := by rintro vs H Q E ⟨v, n, rs, rfl, _⟩; rfl
def R_is_wall (K : PySem.W.Frag) (c_WALL_SORTS : Addr) : TS :=
 (tRet (tOp (rInB K false) (tCall (sp_sort_of K) [] E0 (tCons (tVar 0) (tCons (tVar 1) tNil))) (tC (.ref c_WALL_SORTS))))
theorem rd_is_wall {c_WALL_SORTS : Addr} (q_WALL_SORTS : ∀ H : Hp, SqT K H c_WALL_SORTS [.str ("room" : Str), .str ("frame" : Str)]) (h : sp_is_wall K vs H Q E) : R_is_wall K c_WALL_SORTS { nx := fun _ H' => Q .non H', rt := Q } (start ["book", "name"] vs) H := by
  obtain ⟨v, n, rs, rfl, hR, q⟩ := h
  show R_is_wall K c_WALL_SORTS _ [some v, some (.str n)] H
  unfold R_is_wall
  walk_at "step"
  refine ⟨v, some n, rs, rfl, hR, ?_⟩
  walk_at "step"
  have hw : wall rs n = inV (oV (sortOf rs (some n))) (strV [("room" : Str), ("frame" : Str)]) := by
    unfold wall sortOf
    cases rowOf rs (some n) with
    | none => exact (inV_non _).symm
    | some r => exact (inV_strV _ _).symm
  refine .inl (v_in (xs := strV [("room" : Str), ("frame" : Str)]) (.inr (q_WALL_SORTS H)) ?_ (flat_strV _) ?_)
  · cases sortOf rs (some n) <;> rfl
  · rw [← hw]; exact q
@[reducible] def T_near_of_0 (K : PySem.W.Frag) : TS :=
 (tIfS (tB (tCall (sp_is_wall K) [] E0 (tCons (tVar 0) (tCons (tVar 4) tNil))))
 (tAsg (tOp (rAddB K) (tVar 3) (tC (.int 1))) (gName 2)) tNext)
@[reducible] def T_near_of_1 (K : PySem.W.Frag) : TS :=
 (tSeq (tFor (iEnumT K (tCons (tVar 1) tNil)) (gTup K 2 (gCons (gName 3) (gCons (gName 4) gNil)))
 (T_near_of_0 K))
 (tRet (tCB (rTupleA K) (tCons (tSl (rSlB K) (tVar 1) (tPart (tVar 2)) tNoPart) tNil))))
def sp_near_of (K : PySem.W.Frag) : Sp := fun vs H Q _ => ∃ v a ys rs, vs = [v, .ref a] ∧ Rws K H v rs ∧ SqT K H a (strV ys) ∧ ys.length ≤ 1000 ∧ ∀ p H', Same H H' → SqT K H' p (strV (near rs ys)) → Q (.ref p) H'
theorem len_near_of (K : PySem.W.Frag) : ∀ vs H Q E, sp_near_of K vs H Q E → vs.length = ["book", "names"].length := by rintro vs H Q E ⟨v, a, ys, rs, rfl, _⟩; rfl
def R_near_of (K : PySem.W.Frag) : TS :=
 (tSeq (tAsg (tC (.int 0)) (gName 2))
 (T_near_of_1 K))
theorem rd_near_of (h : sp_near_of K vs H Q E) : R_near_of K { nx := fun _ H' => Q .non H', rt := Q } (start ["book", "names", "start", "number", "name"] vs) H := by
  obtain ⟨v, a, ys, rs, rfl, hR, hq, hl, q⟩ := h
  show R_near_of K _ [some v, some (.ref a), none, none, none] H
  unfold R_near_of
  walk_at "step"
  refine enumT_for hq (fun i σ H' => Same H H' ∧ ∃ (st : Nat) (a3 a4 : Option V), σ = [some v, some (.ref a), some (.int st), a3, a4] ∧ st ≤ i ∧ near rs (ys.take i) = (ys.take i).drop st) ⟨Same.refl _, 0, none, none, rfl, Nat.le_refl _, rfl⟩ (fun i σ H' p => p.1.sqT hq) ?_ ?_
  · rintro i x σ H' p hx ⟨s1, st, a3, a4, rfl, hst, hnr⟩ hp
    obtain ⟨y, hy, rfl⟩ := strV_get hx
    have il := (List.getElem?_eq_some_iff.mp hy).1
    have etk : ys.take (i + 1) = ys.take i ++ [y] := by rw [List.take_add_one, hy]; rfl
    have s2 : Same H (upd H' p (.tup [.int (i : Int), .str y])) := Same.tr s1 (Same.new hp _)
    refine ⟨p, _, rfl, SqT.of upd_same, rfl, _, _, rfl, st_name ⟨_, _, rfl, st_name ⟨rfl, ?_⟩⟩⟩
    walk_at "step"
    refine ⟨v, y, rs, rfl, hR.same s2, ?_⟩
    walk_at "step"
    cases hw : wall rs y with
    | true =>
      refine iteT ?_
      walk_at "step"
      refine .inl (v_addI ?_)
      walk_at "step"
      refine ⟨s2, i + 1, _, _, rfl, Nat.le_refl _, ?_⟩
      rw [etk, near_snoc, if_pos hw, List.drop_eq_nil_of_le (by rw [List.length_append, List.length_take, List.length_singleton]; omega)]
    | false =>
      refine iteF ?_
      walk_at "step"
      refine ⟨s2, st, _, _, rfl, by omega, ?_⟩
      rw [etk, near_snoc, if_neg (by rw [hw]; exact Bool.false_ne_true), hnr, List.drop_append_of_le_length (by rw [List.length_take]; omega)]
  · rintro σ H' ⟨s1, st, a3, a4, rfl, hst, hnr⟩
    rw [strV_len, List.take_length] at hnr
    walk_at "step"
    refine v_slT (s1.sqT hq) fun p H2 s2 hp => ?_
    have e : cutV (strV ys) (some (st : Int)) none = strV (near rs ys) := by
      unfold cutV
      rw [HT.sIx_nat]
      show ((strV ys).drop (min st (strV ys).length)).take ((strV ys).length - min st (strV ys).length) = _
      rw [strV_len] at hst ⊢
      rw [Nat.min_eq_left hst, List.take_of_length_le (by rw [List.length_drop, strV_len]; exact Nat.le_refl _), hnr]
      unfold strV
      rw [List.map_drop]
    rw [e] at hp
    walk_at "step"
    refine ⟨p, _, rfl, .inr ⟨hp, ?_⟩⟩
    exact q p H2 (Same.tr s1 s2) hp
def sp_share_a_name (K : PySem.W.Frag) : Sp := fun vs H Q _ => ∃ (a b : Addr) (ys zs : List Str), vs = [.ref a, .ref b] ∧ SqT K H a (strV ys) ∧ SqT K H b (strV zs) ∧ ys.length ≤ 1000 ∧ ∀ H', Same H H' → Q (.bl (ys.any fun y => decide (y ∈ zs))) H'
theorem len_share_a_name (K : PySem.W.Frag) : ∀ vs H Q E, sp_share_a_name K vs H Q E → vs.length = ["names", "others"].length := by rintro vs H Q E ⟨a, b, ys, zs, rfl, _⟩; rfl
def R_share_a_name (K : PySem.W.Frag) : TS :=
 (tRet (tCB (r_any K) (tCons (tComp [some 1, none] (iAny K (tVar 0)) (gName 1) tTT (tOp (rInB K false) (tVar 1) (tVar 0))) tNil)))
theorem rd_share_a_name (h : sp_share_a_name K vs H Q E) : R_share_a_name K { nx := fun _ H' => Q .non H', rt := Q } (start ["names", "others"] vs) H := by
  obtain ⟨a, b, ys, zs, rfl, ha, hb, hl, q⟩ := h
  show R_share_a_name K _ [some (.ref a), some (.ref b)] H
  unfold R_share_a_name
  walk_at "step"
  refine any_compS (H0 := H) (.inr ha) (Same.refl _) (fun i us H' => H' = H ∧ us = ((ys.take i).map fun y => decide (y ∈ zs)).map V.bl) ⟨rfl, rfl⟩ ?_ (fun i us H' p => p.1 ▸ Same.refl _) ?_ ?_
  · rintro i us H' hi ⟨_, rfl⟩
    rw [List.length_map, List.length_map, List.length_take]; exact sl64 (by omega)
  · rintro i x us H' hx ⟨rfl, rfl⟩
    obtain ⟨y, hy, rfl⟩ := strV_get hx
    walk_at "step"
    refine .inl (v_in (.inr hb) rfl (flat_strV _) ?_)
    rw [inV_strV]
    refine ⟨rfl, ?_⟩
    rw [List.take_add_one, hy]
    simp
  · rintro us H' ⟨rfl, rfl⟩ p hp
    rw [strV_len, List.take_length]
    walk_at "step"
    refine v_any (SqL.of upd_same) ?_
    rw [List.any_map]
    exact q _ (Same.new hp _)
def sp_straight_above (K : PySem.W.Frag) : Sp := fun vs H Q _ => ∃ (a : Addr) (ys : List Str), vs = [.ref a] ∧ (SqL K H a (strV ys) ∨ SqT K H a (strV ys)) ∧ Q (.str (lastOf ys)) H
theorem len_straight_above (K : PySem.W.Frag) : ∀ vs H Q E, sp_straight_above K vs H Q E → vs.length = ["names"].length := by rintro vs H Q E ⟨a, ys, rfl, _⟩; rfl
def R_straight_above (K : PySem.W.Frag) : TS :=
 (tRet (tIf (tTest (tOp rGtA (tCB (rLenA K) (tCons (tVar 0) tNil)) (tC (.int 0)))) (tOp (rIxA K) (tVar 0) (tUn (rU fun i => .int (-i)) (tC (.int 1)))) (tC (.str ("" : Str)))))
theorem rd_straight_above (h : sp_straight_above K vs H Q E) : R_straight_above K { nx := fun _ H' => Q .non H', rt := Q } (start ["names"] vs) H := by
  obtain ⟨a, ys, rfl, hq, q⟩ := h
  show R_straight_above K _ [some (.ref a)] H
  unfold R_straight_above
  walk_at "step"
  refine v_lenQ hq ?_
  rw [strV_len]
  walk_at "step"
  by_cases h0 : (0 : Int) < (ys.length : Int)
  · rw [decide_eq_true h0]
    refine iteT ?_
    walk_at "step"
    refine ⟨1, rfl, ?_⟩
    have e1 : (strV ys)[(strV ys).length - 1]? = some (.str (lastOf ys)) := by
      rw [strV_len]; unfold strV lastOf; rw [List.getElem?_map, gd_get (by omega)]; rfl
    have e2 := atI_end (by rw [strV_len]; omega) e1
    rcases hq with hq | hq
    · exact v_ixL hq e2 q
    · exact v_ixT hq e2 q
  · rw [decide_eq_false h0]
    refine iteF ?_
    walk_at "step"
    have : ys = [] := List.length_eq_zero_iff.mp (by omega)
    subst this
    exact q
def way : Tr → List Int → Option (List Tr)
  | t, [] => some [t]
  | t, k :: pl => if 0 ≤ k then (match t.kids[k.toNat]? with | some u => (way u pl).map (t :: ·) | none => none) else none
theorem way_cons {t : Tr} {k : Int} {pl : List Int} {ws : List Tr} (h : way t (k :: pl) = some ws) : 0 ≤ k ∧ ∃ u ws', t.kids[k.toNat]? = some u ∧ way u pl = some ws' ∧ ws = t :: ws' := by
  rw [way] at h
  by_cases h0 : 0 ≤ k
  · rw [if_pos h0] at h
    cases e : t.kids[k.toNat]? with
    | none => rw [e] at h; cases h
    | some u =>
      rw [e] at h
      obtain ⟨ws', h1, h2⟩ := Option.map_eq_some_iff.mp h
      exact ⟨h0, u, ws', rfl, h1, h2.symm⟩
  · rw [if_neg h0] at h; cases h
theorem way_mk {t u : Tr} {k : Nat} {pl : List Int} {ws : List Tr} (e : t.kids[k]? = some u) (h : way u pl = some ws) : way t ((k : Int) :: pl) = some (t :: ws) := by
  rw [way, if_pos (by omega)]
  rw [show ((k : Int)).toNat = k by omega, e]
  show (way u pl).map (t :: ·) = _
  rw [h]; rfl
theorem way_len : ∀ {pl : List Int} {t : Tr} {ws : List Tr}, way t pl = some ws → ws.length = pl.length + 1
  | [], t, ws, h => by rw [way] at h; cases h; rfl
  | k :: pl, t, ws, h => by
    obtain ⟨_, u, ws', _, h2, rfl⟩ := way_cons h
    rw [List.length_cons, List.length_cons, way_len h2]
theorem way_step : ∀ {pl : List Int} {t : Tr} {ws : List Tr} {i : Nat} {k : Int}, way t pl = some ws → pl[i]? = some k → ∃ u w, ws[i]? = some u ∧ 0 ≤ k ∧ u.kids[k.toNat]? = some w ∧ ws[i + 1]? = some w
  | [], t, ws, i, k, _, e => by simp at e
  | j :: pl, t, ws, 0, k, h, e => by
    obtain ⟨h0, u, ws', h1, h2, rfl⟩ := way_cons h
    cases e
    refine ⟨t, u, rfl, h0, h1, ?_⟩
    cases pl with
    | nil => rw [way] at h2; cases h2; rfl
    | cons k' pl' => obtain ⟨_, _, _, _, _, rfl⟩ := way_cons h2; rfl
  | j :: pl, t, ws, i + 1, k, h, e => by
    obtain ⟨h0, u, ws', h1, h2, rfl⟩ := way_cons h
    obtain ⟨u', w, a1, a2, a3, a4⟩ := way_step (i := i) h2 (by simpa using e)
    exact ⟨u', w, by simpa using a1, a2, a3, by simpa using a4⟩
theorem way_zero {t : Tr} {pl : List Int} {ws : List Tr} (h : way t pl = some ws) : ws[0]? = some t := by
  cases pl with
  | nil => rw [way] at h; cases h; rfl
  | cons k pl => obtain ⟨_, _, _, _, _, rfl⟩ := way_cons h; rfl
theorem atI_last {α : Type} {xs : List α} {v : α} {n : Nat} (hn : xs.length = n + 1) (e : xs[n]? = some v) : atI xs (-1) = some v := by
  unfold atI ixN
  rw [if_neg (by decide), if_pos (by omega)]
  show xs[((xs.length : Int) + -1).toNat]? = some v
  rw [show ((xs.length : Int) + -1).toNat = n by omega]; exact e
def sp_name_of (K : PySem.W.Frag) : Sp := fun vs H Q _ => ∃ (n : Str) (ps : List Tr) (v : V), vs = [v] ∧ Dv K H (Tr.nd n ps).da v ∧ Q (.str n) H
theorem len_name_of (K : PySem.W.Frag) : ∀ vs H Q E, sp_name_of K vs H Q E → vs.length = ["tree"].length := by rintro vs H Q E ⟨n, ps, v, rfl, _⟩; rfl
def R_name_of (K : PySem.W.Frag) : TS :=
 (tRet (tOp (rIxA K) (tVar 0) (tC (.int 0))))
theorem rd_name_of (h : sp_name_of K vs H Q E) : R_name_of K { nx := fun _ H' => Q .non H', rt := Q } (start ["tree"] vs) H := by
  obtain ⟨n, ps, v, rfl, hd, q⟩ := h
  show R_name_of K _ [some v] H
  unfold R_name_of
  obtain ⟨a, bq, us, rfl, ha, _⟩ := tr_parts hd
  walk_at "step"
  exact v_ixT ha (v := .str n) rfl q
@[reducible] def T_way_to_0 (K : PySem.W.Frag) : TS :=
 (tSeq (tIfS (tNot (tTest (tChain rLeA rLtA (tC (.int 0)) (tVar 3) (tCB (rLenA K) (tCons (tVar 4) tNil)))))
 tNever tNext)
 (tDrop (tBM K "list" rAppend (tVar 2) (tCons (tOp (rIxA K) (tVar 4) (tVar 3)) tNil))))
@[reducible] def T_way_to_1 (K : PySem.W.Frag) : TS :=
 (tSeq (tAsg (tCall (sp_parts_of K) [] E0 (tCons (tOp (rIxA K) (tVar 2) (tUn (rU fun i => .int (-i)) (tC (.int 1)))) tNil)) (gName 4))
 (T_way_to_0 K))
def sp_way_to (K : PySem.W.Frag) : Sp := fun vs H Q _ => ∃ (t : Tr) (v : V) (a : Addr) (pl : List Int) (ws : List Tr), vs = [v, .ref a] ∧ Dv K H t.da v ∧ SqT K H a (intV pl) ∧ way t pl = some ws ∧ pl.length ≤ 50000 ∧ ∀ (p : Addr) (us : List V) (H' : Hp), Same H H' → H' p = some (.lst us) → Dvs K H' (Tr.das ws) us → Q (.ref p) H'
theorem len_way_to (K : PySem.W.Frag) : ∀ vs H Q E, sp_way_to K vs H Q E → vs.length = ["tree", "place"].length := by rintro vs H Q E ⟨t, v, a, pl, ws, rfl, _⟩; rfl
def R_way_to (K : PySem.W.Frag) : TS :=
 (tSeq (tAsg (tLst (tCons (tVar 0) tNil)) (gName 2))
 (tSeq (tFor (iAny K (tVar 1)) (gName 3)
 (T_way_to_1 K))
 (tRet (tVar 2))))
theorem rd_way_to (h : sp_way_to K vs H Q E) : R_way_to K { nx := fun _ H' => Q .non H', rt := Q } (start ["tree", "place", "way", "number", "parts"] vs) H := by
  obtain ⟨t, v, a, pl, ws, rfl, hd, ha, hw, hl, q⟩ := h
  show R_way_to K _ [some v, some (.ref a), none, none, none] H
  unfold R_way_to
  have hwl := way_len hw
  walk_at "step"
  refine ⟨sl64 (by simp), fun p hp => ?_⟩
  walk_at "step"
  let Pv0 : Nat → St → Hp → Prop := fun i σ H' => ∃ (us : List V) (a3 a4 : Option V), σ = [some v, some (.ref a), some (.ref p), a3, a4] ∧ Same H H' ∧ H' p = some (.lst us) ∧ Dvs K H' (Tr.das (ws.take (i + 1))) us
  refine any_forS (H0 := H) (xs := intV pl) (.inr ha) (Same.new hp _) Pv0 ⟨[v], _, _, rfl, Same.new hp _, upd_same, ?_⟩ (fun i σ H' ⟨_, _, _, _, s, _⟩ => s) ?_ ?_
  · rw [List.take_add_one, List.take_zero, way_zero hw]
    show Dvs K _ (Tr.das [t]) [v]
    rw [Tr.das, Tr.das]
    exact Dvs.one (Dv.same (Same.new hp _) _ _ hd)
  · rintro i x σ H' hx ⟨us, a3, a4, rfl, s1, hp', dv⟩
    unfold intV at hx
    rw [List.getElem?_map] at hx
    obtain ⟨k, hk, rfl⟩ := Option.map_eq_some_iff.mp hx
    obtain ⟨u, w, h1, h2, h3, h4⟩ := way_step hw hk
    have il := (List.getElem?_eq_some_iff.mp hk).1
    have hul : us.length = i + 1 := by rw [das_len dv, List.length_take]; omega
    obtain ⟨y, hy, dy⟩ := das_get dv (i := i) (t := u) (by rw [List.getElem?_take_of_lt (by omega)]; exact h1)
    walk_at "step"
    refine ⟨1, rfl, ?_⟩
    refine v_ixL (SqL.of hp') (atI_last hul hy) ?_
    walk_at "step"
    refine ⟨u, y, rfl, dy, fun c ys H2 s2 hc dc => ?_⟩
    walk_at "step"
    rw [decide_eq_true h2]
    refine iteT ?_
    walk_at "step"
    refine v_lenQ (.inr hc) ?_
    have hkl := (List.getElem?_eq_some_iff.mp h3).1
    have hyl := das_len dc
    walk_at "step"
    rw [decide_eq_true (by omega)]
    refine iteF ?_
    walk_at "step"
    have hp2 := s2 _ _ hp'
    refine ⟨.inl ⟨rfl, _, SqL.of hp2⟩, ?_⟩
    walk_at "step"
    obtain ⟨z, hz, dz⟩ := das_get dc h3
    refine v_ixT hc (ixI h2 hz) ?_
    walk_at "step"
    refine v_append hp2 (by rw [sizeLine_eq]; omega) ?_
    have tk : TupK H2 (upd H2 p (.lst (us ++ [z]))) := tupK_lst hp2
    refine ⟨us ++ [z], _, _, rfl, Same.put (Same.tr s1 s2) hp _, upd_same, ?_⟩
    rw [List.take_add_one, h4, das_map, List.map_append, ← das_map]
    exact Dvs.append (Dvs.tupK tk _ _ (das_fix _) (Dvs.same s2 _ _ dv)) (Dvs.one (Dv.tupK tk _ _ (da_fix w) dz))
  · rintro σ H' ⟨us, a3, a4, rfl, s1, hp', dv⟩
    walk_at "step"
    rw [List.take_of_length_le (by rw [intV_len]; omega)] at dv
    exact q p us H' s1 hp' dv
def sp_part_at (K : PySem.W.Frag) : Sp := fun vs H Q _ => ∃ (t u : Tr) (v : V) (a : Addr) (pl : List Int) (ws : List Tr), vs = [v, .ref a] ∧ Dv K H t.da v ∧ SqT K H a (intV pl) ∧ way t pl = some (ws ++ [u]) ∧ pl.length ≤ 50000 ∧ ∀ (x : V) (H' : Hp), Same H H' → Dv K H' u.da x → Q x H'
theorem len_part_at (K : PySem.W.Frag) : ∀ vs H Q E, sp_part_at K vs H Q E → vs.length = ["tree", "place"].length := by rintro vs H Q E ⟨t, u, v, a, pl, ws, rfl, _⟩; rfl
def R_part_at (K : PySem.W.Frag) : TS :=
 (tRet (tOp (rIxA K) (tCall (sp_way_to K) [] E0 (tCons (tVar 0) (tCons (tVar 1) tNil))) (tUn (rU fun i => .int (-i)) (tC (.int 1)))))
theorem rd_part_at (h : sp_part_at K vs H Q E) : R_part_at K { nx := fun _ H' => Q .non H', rt := Q } (start ["tree", "place"] vs) H := by
  obtain ⟨t, u, v, a, pl, ws, rfl, hd, ha, hw, hl, q⟩ := h
  show R_part_at K _ [some v, some (.ref a)] H
  unfold R_part_at
  walk_at "step"
  refine ⟨t, v, a, pl, ws ++ [u], rfl, hd, ha, hw, hl, fun p us H' s1 hp dv => ?_⟩
  walk_at "step"
  refine ⟨1, rfl, ?_⟩
  rw [das_map, List.map_append] at dv
  obtain ⟨us', x, rfl, _, dx⟩ := Dvs.snoc dv
  refine v_ixL (SqL.of hp) (v := x) (atI_last (n := us'.length) (by simp) (by simp)) ?_
  exact q x H' s1 dx
def nmOf : Tr → Str
  | .nd n _ => n
  | .tx _ => ""
theorem cut_mid (xs : List V) (x z : V) : cutV (x :: (xs ++ [z])) (some 1) (some (-1)) = xs := by
  unfold cutV
  have e1 : HT.sIx (x :: (xs ++ [z])).length 0 (some 1) = 1 := by
    have := HT.sIx_nat (x :: (xs ++ [z])).length 0 1
    rw [show ((1 : Nat) : Int) = 1 from rfl] at this
    rw [this]; simp
  have e2 : HT.sIx (x :: (xs ++ [z])).length (x :: (xs ++ [z])).length (some (-1)) = xs.length + 1 := by
    unfold HT.sIx; simp; omega
  rw [e1, e2]; simp
def sp_names_above (K : PySem.W.Frag) : Sp := fun vs H Q _ => ∃ (t u : Tr) (v : V) (a : Addr) (pl : List Int) (ws : List Tr), vs = [v, .ref a] ∧ Dv K H t.da v ∧ SqT K H a (intV pl) ∧ way t pl = some (t :: (ws ++ [u])) ∧ (∀ w ∈ ws, w.isTx = false) ∧ pl.length ≤ 50000 ∧ ∀ (p : Addr) (H' : Hp), Same H H' → H' p = some (.tup (strV (ws.map nmOf))) → Q (.ref p) H'
theorem len_names_above (K : PySem.W.Frag) : ∀ vs H Q E, sp_names_above K vs H Q E → vs.length = ["tree", "place"].length := by rintro vs H Q E ⟨t, u, v, a, pl, ws, rfl, _⟩; rfl
def R_names_above (K : PySem.W.Frag) : TS :=
 (tRet (tCB (rTupleA K) (tCons (tComp [none] (iAny K (tSl (rSlA K) (tCall (sp_way_to K) [] E0 (tCons (tVar 0) (tCons (tVar 1) tNil))) (tPart (tC (.int 1))) (tPart (tUn (rU fun i => .int (-i)) (tC (.int 1)))))) (gName 0) tTT (tCall (sp_name_of K) [] E0 (tCons (tVar 0) tNil))) tNil)))
theorem rd_names_above (h : sp_names_above K vs H Q E) : R_names_above K { nx := fun _ H' => Q .non H', rt := Q } (start ["tree", "place"] vs) H := by
  obtain ⟨t, u, v, a, pl, ws, rfl, hd, ha, hw, hn, hl, q⟩ := h
  show R_names_above K _ [some v, some (.ref a)] H
  unfold R_names_above
  have hwl := way_len hw
  rw [List.length_cons, List.length_append] at hwl
  walk_at "step"
  refine ⟨t, v, a, pl, _, rfl, hd, ha, hw, hl, fun p us H' s1 hp dv => ?_⟩
  walk_at "step"
  rw [das_map, List.map_cons, List.map_append, Dvs] at dv
  obtain ⟨v0, r, rfl, _, dv⟩ := dv
  obtain ⟨us, x, rfl, dus, dx⟩ := Dvs.snoc dv
  refine ⟨1, rfl, ?_⟩
  walk_at "step"
  refine v_slL (SqL.of hp) fun p2 hp2 => ?_
  rw [cut_mid]
  have s2 := Same.tr s1 (Same.new hp2 (.lst us))
  have dus2 : Dvs K (upd H' p2 (.lst us)) (Tr.das ws) us := by rw [das_map]; exact Dvs.same (Same.new hp2 _) _ _ dus
  have hp3 : (upd H' p2 (.lst us)) p2 = some (.lst us) := upd_same
  have hul := das_len dus2
  generalize upd H' p2 (.lst us) = H2 at *
  refine any_compL (xs := us) (SqL.of hp3) (fun i ys H' => H' = H2 ∧ ys = strV ((ws.take i).map nmOf)) ⟨rfl, rfl⟩ ?_ ?_ ?_ ?_
  · rintro i ys H' hi ⟨rfl, rfl⟩
    rw [strV_len, List.length_map, List.length_take]
    exact sl64 (by omega)
  · rintro i ys H' hi ⟨rfl, rfl⟩
    exact SqL.of hp3
  · rintro i y ys H' hy ⟨rfl, rfl⟩
    obtain ⟨d, h1, h2⟩ := dus2.get' hy
    rw [das_map, List.getElem?_map] at h1
    obtain ⟨w, hw1, rfl⟩ := Option.map_eq_some_iff.mp h1
    have hwn := hn w (List.mem_of_getElem? hw1)
    cases w with
    | tx s => cases hwn
    | nd n ps =>
      walk_at "step"
      refine ⟨n, ps, y, rfl, h2, ?_⟩
      refine ⟨rfl, ?_⟩
      rw [List.take_add_one, hw1]
      simp [strV, nmOf]
  · rintro ys H' ⟨rfl, rfl⟩ p4 hp4
    rw [hul, List.take_length]
    walk_at "step"
    refine ⟨p4, _, rfl, .inl ⟨SqL.of upd_same, fun t4 ht4 => ?_⟩⟩
    exact q t4 _ (Same.tr s2 (Same.tr (Same.new hp4 _) (Same.new ht4 _))) upd_same
end My
namespace My
open PySem L2
variable {K : PySem.W.Frag} {vs : List V} {H : Hp} {Q : VK} {E : XK}
def frameF (rs : List Row) (ns : List Str) (n : Str) : Option Str :=
  if (hostOf rs (some (lastOf ns))).isSome && decide (hostOf rs (some (lastOf ns)) ≠ some n) then some "guest"
  else if (frameOf rs (some n)).isSome && decide (frameOf rs (some n) ≠ some (lastOf ns)) then some "lost" else none
def nearF (rs : List Row) (ns : List Str) (n : Str) : Option Str :=
  match rowOf rs (some n) with
  | none => none
  | some r => if ((near rs ns).any fun y => decide (y ∈ r.shuts)) then some "shut" else if ((near rs ns).any fun y => decide (y ∈ r.bars)) then some "barred" else none
def treeF (rs : List Row) (ns : List Str) (n : Str) (m : Nat) : Option Str :=
  match sortOf rs (some n) with
  | none => some "strange"
  | some s => if s = ("bare" : Str) ∧ 0 < m then some "full" else if 19 < ns.length then some "deep" else match frameF rs ns n with | some f => some f | none => nearF rs ns n
def textF (rs : List Row) (ns : List Str) (s : Str) (bs : Bool) : Option Str :=
  if (hostOf rs (some (lastOf ns))).isSome then some "guest" else if s = ("" : Str) then some "empty" else if bs then some "beside" else none
def faultF (rs : List Row) (ns : List Str) (t : Tr) (bs : Bool) : Option Str :=
  match t with
  | .tx s => textF rs ns s bs
  | .nd n ps => treeF rs ns n ps.length
theorem oV_non (x : Option Str) : decide (oV x = .non) = x.isNone := by cases x <;> rfl
theorem tup_str {xs : List Str} {v : V} (h : Dv K H (.tuple (sDa xs)) v) : ∃ b, v = .ref b ∧ SqT K H b (strV xs) := by
  obtain ⟨b, ys, rfl, hb, h⟩ := dv_tuple.mp h
  rw [dvs_sDa] at h; subst h
  exact ⟨b, rfl, hb⟩
@[reducible] def T_text_fault_0 (K : PySem.W.Frag) : TS :=
 (tSeq (tIfS (tTest (tOp (rEqA K) (tVar 2) (tC (.str ("" : Str)))))
 (tRet (tC (.str ("empty" : Str)))) tNext)
 (tRet (tIf (tB (tVar 3)) (tC (.str ("beside" : Str))) (tC .non))))
def sp_text_fault (K : PySem.W.Frag) : Sp := fun vs H Q _ => ∃ (v : V) (rs : List Row) (a : Addr) (ns : List Str) (s : Str) (c : Bool), vs = [v, .ref a, .str s, .bl c] ∧ Rws K H v rs ∧ SqT K H a (strV ns) ∧ Q (oV (textF rs ns s c)) H
theorem len_text_fault (K : PySem.W.Frag) : ∀ vs H Q E, sp_text_fault K vs H Q E → vs.length = ["book", "names", "text", "beside"].length := by rintro vs H Q E ⟨v, rs, a, ns, s, c, rfl, _⟩; rfl
def R_text_fault (K : PySem.W.Frag) : TS :=
 (tSeq (tIfS (tTest (tOp rIsNotA (tCall (sp_host_of K) [] E0 (tCons (tVar 0) (tCons (tCall (sp_straight_above K) [] E0 (tCons (tVar 1) tNil)) tNil))) (tC .non)))
 (tRet (tC (.str ("guest" : Str)))) tNext)
 (T_text_fault_0 K))
theorem rd_text_fault (h : sp_text_fault K vs H Q E) : R_text_fault K { nx := fun _ H' => Q .non H', rt := Q } (start ["book", "names", "text", "beside"] vs) H := by
  obtain ⟨v, rs, a, ns, s, c, rfl, hR, ha, q⟩ := h
  show R_text_fault K _ [some v, some (.ref a), some (.str s), some (.bl c)] H
  unfold R_text_fault
  unfold textF at q
  walk_at "step"
  refine ⟨a, ns, rfl, .inr ha, ?_⟩
  walk_at "step"
  refine ⟨v, some (lastOf ns), rs, rfl, hR, ?_⟩
  walk_at "step"
  rw [oV_non]
  cases e : hostOf rs (some (lastOf ns)) with
  | some hh =>
    rw [e] at q
    refine iteT ?_
    walk_at "step"
    exact q
  | none =>
    rw [e] at q
    refine iteF ?_
    walk_at "step"
    by_cases h0 : s = ("" : Str)
    · rw [decide_eq_true h0]; refine iteT ?_
      walk_at "step"
      rw [if_neg (by decide), if_pos h0] at q
      exact q
    · rw [decide_eq_false h0]; refine iteF ?_
      rw [if_neg (by decide), if_neg h0] at q
      walk_at "step"
      cases c with
      | true => exact q
      | false => exact q
@[reducible] def T_frame_fault_0 (K : PySem.W.Frag) : TS :=
 (tSeq (tIfS (tAnd (tTest (tOp rIsNotA (tVar 5) (tC .non))) (tTest (tOp (rNeA K) (tVar 5) (tVar 3))))
 (tRet (tC (.str ("lost" : Str)))) tNext)
 (tRet (tC .non)))
def frameT (K : PySem.W.Frag) : TS :=
 (tSeq (tAsg (tCall (sp_frame_of K) [] E0 (tCons (tVar 0) (tCons (tVar 2) tNil))) (gName 5))
 (T_frame_fault_0 K))
@[reducible] def T_frame_fault_2 (K : PySem.W.Frag) : TS :=
 (tSeq (tIfS (tAnd (tTest (tOp rIsNotA (tVar 4) (tC .non))) (tTest (tOp (rNeA K) (tVar 4) (tVar 2))))
 (tRet (tC (.str ("guest" : Str)))) tNext)
 (frameT K))
@[reducible] def T_frame_fault_3 (K : PySem.W.Frag) : TS :=
 (tSeq (tAsg (tCall (sp_host_of K) [] E0 (tCons (tVar 0) (tCons (tVar 3) tNil))) (gName 4))
 (T_frame_fault_2 K))
def sp_frame_fault (K : PySem.W.Frag) : Sp := fun vs H Q _ => ∃ (v : V) (rs : List Row) (a : Addr) (ns : List Str) (n : Str), vs = [v, .ref a, .str n] ∧ Rws K H v rs ∧ SqT K H a (strV ns) ∧ Q (oV (frameF rs ns n)) H
theorem len_frame_fault (K : PySem.W.Frag) : ∀ vs H Q E, sp_frame_fault K vs H Q E → vs.length = ["book", "names", "name"].length := by rintro vs H Q E ⟨v, rs, a, ns, n, rfl, _⟩; rfl
def R_frame_fault (K : PySem.W.Frag) : TS :=
 (tSeq (tAsg (tCall (sp_straight_above K) [] E0 (tCons (tVar 1) tNil)) (gName 3))
 (T_frame_fault_3 K))
theorem rd_frame_fault (h : sp_frame_fault K vs H Q E) : R_frame_fault K { nx := fun _ H' => Q .non H', rt := Q } (start ["book", "names", "name", "above", "host", "frame"] vs) H := by
  obtain ⟨v, rs, a, ns, n, rfl, hR, ha, q⟩ := h
  show R_frame_fault K _ [some v, some (.ref a), some (.str n), none, none, none] H
  unfold R_frame_fault
  unfold frameF at q
  walk_at "step"
  refine ⟨a, ns, rfl, .inr ha, ?_⟩
  walk_at "step"
  refine ⟨v, some (lastOf ns), rs, rfl, hR, ?_⟩
  walk_at "step"
  rw [oV_non]
  have fin : ((hostOf rs (some (lastOf ns))).isSome && decide (hostOf rs (some (lastOf ns)) ≠ some n)) = false → frameT K { nx := fun _ H' => Q .non H', rt := Q } [some v, some (.ref a), some (.str n), some (.str (lastOf ns)), some (oV (hostOf rs (some (lastOf ns)))), none] H := by
    intro hc
    rw [hc, if_neg Bool.false_ne_true] at q
    unfold frameT
    walk_at "step"
    refine ⟨v, some n, rs, rfl, hR, ?_⟩
    walk_at "step"
    rw [oV_non]
    cases e : frameOf rs (some n) with
    | none =>
      rw [e] at q
      refine iteF ?_
      refine iteF ?_
      walk_at "step"
      exact q
    | some f =>
      rw [e] at q
      refine iteT ?_
      walk_at "step"
      refine v_neS ?_
      walk_at "step"
      by_cases ef : f = lastOf ns
      · rw [decide_eq_true ef]
        refine iteF ?_
        walk_at "step"
        have : ((some f).isSome && decide (some f ≠ some (lastOf ns))) = false := by simp [ef]
        rw [this, if_neg Bool.false_ne_true] at q
        exact q
      · rw [decide_eq_false ef]
        refine iteT ?_
        walk_at "step"
        have : ((some f).isSome && decide (some f ≠ some (lastOf ns))) = true := by simp [ef]
        rw [this, if_pos rfl] at q
        exact q
  cases e : hostOf rs (some (lastOf ns)) with
  | none =>
    refine iteF ?_
    refine iteF ?_
    have := fin (by rw [e]; rfl)
    rw [e] at this
    exact this
  | some hh =>
    refine iteT ?_
    walk_at "step"
    refine v_neS ?_
    walk_at "step"
    by_cases eh : hh = n
    · rw [decide_eq_true eh]
      refine iteF ?_
      have := fin (by rw [e]; simp [eh])
      rw [e] at this
      exact this
    · rw [decide_eq_false eh]
      refine iteT ?_
      walk_at "step"
      have : ((hostOf rs (some (lastOf ns))).isSome && decide (hostOf rs (some (lastOf ns)) ≠ some n)) = true := by rw [e]; simp [eh]
      rw [this, if_pos rfl] at q
      exact q
@[reducible] def T_near_fault_0 (K : PySem.W.Frag) : TS :=
 (tRet (tIf (tB (tCall (sp_share_a_name K) [] E0 (tCons (tVar 4) (tCons (tOp (rIxA K) (tVar 3) (tC (.int 4))) tNil)))) (tC (.str ("barred" : Str))) (tC .non)))
@[reducible] def T_near_fault_1 (K : PySem.W.Frag) : TS :=
 (tSeq (tIfS (tB (tCall (sp_share_a_name K) [] E0 (tCons (tVar 4) (tCons (tOp (rIxA K) (tVar 3) (tC (.int 3))) tNil))))
 (tRet (tC (.str ("shut" : Str)))) tNext)
 (T_near_fault_0 K))
@[reducible] def T_near_fault_2 (K : PySem.W.Frag) : TS :=
 (tSeq (tAsg (tCall (sp_near_of K) [] E0 (tCons (tVar 0) (tCons (tVar 1) tNil))) (gName 4))
 (T_near_fault_1 K))
def sp_near_fault (K : PySem.W.Frag) : Sp := fun vs H Q _ => ∃ (v : V) (rs : List Row) (a : Addr) (ns : List Str) (n : Str) (r : Row), vs = [v, .ref a, .str n] ∧ Rws K H v rs ∧ SqT K H a (strV ns) ∧ ns.length ≤ 1000 ∧ rowOf rs (some n) = some r ∧ ∀ H', Same H H' → Q (oV (nearF rs ns n)) H'
theorem len_near_fault (K : PySem.W.Frag) : ∀ vs H Q E, sp_near_fault K vs H Q E → vs.length = ["book", "names", "name"].length := by rintro vs H Q E ⟨v, rs, a, ns, n, r, rfl, _⟩; rfl
def R_near_fault (K : PySem.W.Frag) : TS :=
 (tSeq (tAsg (tCall (sp_row_of K) [] E0 (tCons (tVar 0) (tCons (tVar 2) tNil))) (gName 3))
 (T_near_fault_2 K))
theorem rd_near_fault (h : sp_near_fault K vs H Q E) : R_near_fault K { nx := fun _ H' => Q .non H', rt := Q } (start ["book", "names", "name", "row", "near"] vs) H := by
  obtain ⟨v, rs, a, ns, n, r, rfl, hR, ha, hl, er, q⟩ := h
  show R_near_fault K _ [some v, some (.ref a), some (.str n), none, none] H
  unfold R_near_fault
  unfold nearF at q
  rw [er] at q
  dsimp only at q
  walk_at "step"
  refine ⟨v, some n, rs, rfl, hR, (fun e => by rw [er] at e; cases e), fun r' u er' du => ?_⟩
  rw [er] at er'
  injection er' with er'
  subst er'
  walk_at "step"
  refine ⟨v, a, ns, rs, rfl, hR, ha, hl, fun p H1 s1 hp => ?_⟩
  walk_at "step"
  obtain ⟨b, sv, bv, rfl, hb, hs, hbv⟩ := row_parts du
  obtain ⟨sb, rfl, hsb⟩ := tup_str hs
  obtain ⟨bb, rfl, hbb⟩ := tup_str hbv
  have hnl := near_len rs ns.length ns rfl
  refine v_ixT (s1.sqT hb) (v := .ref sb) rfl ?_
  walk_at "step"
  refine ⟨p, sb, near rs ns, r.shuts, rfl, hp, s1.sqT hsb, by omega, fun H2 s2 => ?_⟩
  walk_at "step"
  have s12 := Same.tr s1 s2
  cases e1 : (near rs ns).any fun y => decide (y ∈ r.shuts) with
  | true =>
    refine iteT ?_
    walk_at "step"
    have := q H2 s12
    rw [e1, if_pos rfl] at this
    exact this
  | false =>
    refine iteF ?_
    walk_at "step"
    refine v_ixT (s12.sqT hb) (v := .ref bb) rfl ?_
    walk_at "step"
    refine ⟨p, bb, near rs ns, r.bars, rfl, s2.sqT hp, s12.sqT hbb, by omega, fun H3 s3 => ?_⟩
    walk_at "step"
    have := q H3 (Same.tr s12 s3)
    rw [e1, if_neg Bool.false_ne_true] at this
    cases e2 : (near rs ns).any fun y => decide (y ∈ r.bars) with
    | true => rw [e2, if_pos rfl] at this; exact this
    | false => rw [e2, if_neg Bool.false_ne_true] at this; exact this
theorem frameF_is (rs : List Row) (ns : List Str) (n : Str) : frameF rs ns n = none ∨ frameF rs ns n = some "guest" ∨ frameF rs ns n = some "lost" := by
  unfold frameF
  split
  · exact .inr (.inl rfl)
  · split
    · exact .inr (.inr rfl)
    · exact .inl rfl
@[reducible] def T_tree_fault_0 (K : PySem.W.Frag) : TS :=
 (tRet (tOrT K (tCall (sp_frame_fault K) [] E0 (tCons (tVar 0) (tCons (tVar 1) (tCons (tCall (sp_name_of K) [] E0 (tCons (tVar 2) tNil)) tNil)))) (tCall (sp_near_fault K) [] E0 (tCons (tVar 0) (tCons (tVar 1) (tCons (tCall (sp_name_of K) [] E0 (tCons (tVar 2) tNil)) tNil))))))
def treeT (K : PySem.W.Frag) : TS :=
 (tSeq (tIfS (tTest (tOp rGtA (tCB (rLenA K) (tCons (tVar 1) tNil)) (tC (.int 19))))
 (tRet (tC (.str ("deep" : Str)))) tNext)
 (T_tree_fault_0 K))
@[reducible] def T_tree_fault_2 (K : PySem.W.Frag) : TS :=
 (tSeq (tIfS (tAnd (tTest (tOp (rEqA K) (tVar 3) (tC (.str ("bare" : Str))))) (tTest (tOp rGtA (tCB (rLenA K) (tCons (tCall (sp_parts_of K) [] E0 (tCons (tVar 2) tNil)) tNil)) (tC (.int 0)))))
 (tRet (tC (.str ("full" : Str)))) tNext)
 (treeT K))
@[reducible] def T_tree_fault_3 (K : PySem.W.Frag) : TS :=
 (tSeq (tIfS (tTest (tOp rIsA (tVar 3) (tC .non)))
 (tRet (tC (.str ("strange" : Str)))) tNext)
 (T_tree_fault_2 K))
def sp_tree_fault (K : PySem.W.Frag) : Sp := fun vs H Q _ => ∃ (v : V) (rs : List Row) (a : Addr) (ns : List Str) (n : Str) (ps : List Tr) (x : V), vs = [v, .ref a, x] ∧ Rws K H v rs ∧ SqT K H a (strV ns) ∧ ns.length ≤ 1000 ∧ Dv K H (Tr.nd n ps).da x ∧ ∀ H', Same H H' → Q (oV (treeF rs ns n ps.length)) H'
theorem len_tree_fault (K : PySem.W.Frag) : ∀ vs H Q E, sp_tree_fault K vs H Q E → vs.length = ["book", "names", "tree"].length := by rintro vs H Q E ⟨v, rs, a, ns, n, ps, x, rfl, _⟩; rfl
def R_tree_fault (K : PySem.W.Frag) : TS :=
 (tSeq (tAsg (tCall (sp_sort_of K) [] E0 (tCons (tVar 0) (tCons (tCall (sp_name_of K) [] E0 (tCons (tVar 2) tNil)) tNil))) (gName 3))
 (T_tree_fault_3 K))
theorem rd_tree_fault (h : sp_tree_fault K vs H Q E) : R_tree_fault K { nx := fun _ H' => Q .non H', rt := Q } (start ["book", "names", "tree", "sort"] vs) H := by
  obtain ⟨v, rs, a, ns, n, ps, x, rfl, hR, ha, hl, dx, q⟩ := h
  show R_tree_fault K _ [some v, some (.ref a), some x, none] H
  unfold R_tree_fault
  unfold treeF at q
  walk_at "step"
  refine ⟨n, ps, x, rfl, dx, ?_⟩
  walk_at "step"
  refine ⟨v, some n, rs, rfl, hR, ?_⟩
  walk_at "step"
  rw [oV_non]
  cases e : sortOf rs (some n) with
  | none =>
    rw [e] at q
    refine iteT ?_
    walk_at "step"
    exact q H (fun _ _ e => e)
  | some s =>
    rw [e] at q
    dsimp only at q
    refine iteF ?_
    walk_at "step"
    obtain ⟨r, er⟩ : ∃ r, rowOf rs (some n) = some r := by
      unfold sortOf at e
      obtain ⟨r, er, _⟩ := Option.map_eq_some_iff.mp e
      exact ⟨r, er⟩
    have fin : ∀ H1, Same H H1 → ¬ (s = ("bare" : Str) ∧ 0 < ps.length) → treeT K { nx := fun _ H' => Q .non H', rt := Q } [some v, some (.ref a), some x, some (.str s)] H1 := by
      intro H1 s1 hb
      rw [if_neg hb] at q
      unfold treeT
      walk_at "step"
      refine v_lenQ (.inr (s1.sqT ha)) ?_
      rw [strV_len]
      walk_at "step"
      by_cases hd : 19 < ns.length
      · rw [decide_eq_true (by omega)]
        refine iteT ?_
        walk_at "step"
        rw [if_pos hd] at q
        exact q H1 s1
      · rw [decide_eq_false (by omega)]
        refine iteF ?_
        rw [if_neg hd] at q
        walk_at "step"
        refine ⟨n, ps, x, rfl, Dv.same s1 _ _ dx, ?_⟩
        walk_at "step"
        refine ⟨v, rs, a, ns, n, rfl, hR.same s1, s1.sqT ha, ?_⟩
        rcases frameF_is rs ns n with ef | ef | ef
        · rw [ef] at q ⊢
          refine ⟨false, rfl, ?_⟩
          refine iteF ?_
          walk_at "step"
          refine ⟨n, ps, x, rfl, Dv.same s1 _ _ dx, ?_⟩
          walk_at "step"
          exact ⟨v, rs, a, ns, n, r, rfl, hR.same s1, s1.sqT ha, hl, er, fun H2 s2 => q H2 (Same.tr s1 s2)⟩
        · rw [ef] at q ⊢
          refine ⟨true, ⟨sl64 (by decide), by decide⟩, ?_⟩
          refine iteT ?_
          exact q H1 s1
        · rw [ef] at q ⊢
          refine ⟨true, ⟨sl64 (by decide), by decide⟩, ?_⟩
          refine iteT ?_
          exact q H1 s1
    refine v_eqS ?_
    walk_at "step"
    by_cases hb : s = ("bare" : Str)
    · rw [decide_eq_true hb]
      refine iteT ?_
      walk_at "step"
      refine ⟨.nd n ps, x, rfl, dx, fun c us H1 s1 hc dc => ?_⟩
      walk_at "step"
      refine v_lenQ (.inr hc) ?_
      have hul : us.length = ps.length := das_len dc
      rw [hul]
      walk_at "step"
      by_cases hz : 0 < ps.length
      · rw [decide_eq_true (by omega)]
        refine iteT ?_
        walk_at "step"
        rw [if_pos ⟨hb, hz⟩] at q
        exact q H1 s1
      · rw [decide_eq_false (by omega)]
        refine iteF ?_
        exact fin H1 s1 fun h => hz h.2
    · rw [decide_eq_false hb]
      refine iteF ?_
      refine iteF ?_
      exact fin H (fun _ _ e => e) fun h => hb h.1
end My
namespace My
open PySem L2
variable {K : PySem.W.Frag} {vs : List V} {H : Hp} {Q : VK} {E : XK}
theorem way_snoc : ∀ {q : List Int} {t : Tr} {ws : List Tr} {p u : Tr} {k : Nat}, way t q = some (ws ++ [p]) → p.kids[k]? = some u → way t (q ++ [(k : Int)]) = some (ws ++ [p] ++ [u])
  | [], t, ws, p, u, k, h, e => by
    rw [way] at h
    injection h with h
    have hw : ws = [] := by
      cases ws with
      | nil => rfl
      | cons a l => have := congrArg List.length h; simp at this
    subst hw
    injection h with h _
    subst h
    exact way_mk e (by rw [way]; rfl)
  | j :: q, t, ws, p, u, k, h, e => by
    obtain ⟨h0, v, ws', h1, h2, h3⟩ := way_cons h
    cases ws with
    | nil =>
      injection h3 with _ h3
      subst h3
      have := way_len h2
      cases this
    | cons a l =>
      injection h3 with ha h3
      subst h3
      have := way_snoc h2 e
      rw [List.cons_append, way, if_pos h0, h1]
      show (way v (q ++ [(k : Int)])).map (t :: ·) = _
      rw [this, ha]; rfl
theorem kid_nd {p u : Tr} {k : Nat} (e : p.kids[k]? = some u) : p.isTx = false := by
  cases p with
  | tx s => cases e
  | nd n ps => rfl
theorem way_nd : ∀ {q : List Int} {t : Tr} {ws : List Tr} {p : Tr}, way t q = some (ws ++ [p]) → p.isTx = false → ∀ w ∈ ws ++ [p], w.isTx = false
  | [], t, ws, p, h, hp => by
    rw [way] at h
    injection h with h
    rw [← h]
    have hl := congrArg List.length h
    have hw : ws = [] := by
      cases ws with
      | nil => rfl
      | cons a l => simp at hl
    subst hw
    injection h with h _
    intro w hw
    rw [List.mem_singleton.mp hw, h]; exact hp
  | j :: q, t, ws, p, h, hp => by
    obtain ⟨h0, v, ws', h1, h2, h3⟩ := way_cons h
    cases ws with
    | nil =>
      injection h3 with _ h3
      subst h3
      have := way_len h2
      cases this
    | cons a l =>
      injection h3 with ha h3
      subst h3
      intro w hw
      rcases List.mem_cons.mp hw with rfl | hw
      · rw [ha]; exact kid_nd h1
      · exact way_nd h2 hp w hw
theorem way_head {q : List Int} {t : Tr} {ws : List Tr} (h : way t q = some ws) : ws = t :: ws.drop 1 := by
  have := way_zero h
  cases ws with
  | nil => simp at this
  | cons a l => cases this; rfl
def bsd (p : Tr) (k : Nat) : Bool := decide (0 < k) && ((p.kids[k - 1]?).map Tr.isTx).getD false
theorem cut_last (xs : List V) (z : V) : cutV (xs ++ [z]) none (some (-1)) = xs := by
  unfold cutV
  have e2 : HT.sIx (xs ++ [z]).length (xs ++ [z]).length (some (-1)) = xs.length := by
    unfold HT.sIx; simp; omega
  show ((xs ++ [z]).drop 0).take (HT.sIx (xs ++ [z]).length (xs ++ [z]).length (some (-1)) - 0) = xs
  rw [e2]; simp
theorem intV_snoc (q : List Int) (k : Int) : intV (q ++ [k]) = intV q ++ [.int k] := by simp [intV]
@[reducible] def T_follows_text_0 (K : PySem.W.Frag) : TS :=
 (tRet (tAndV (tOp rGtA (tVar 2) (tC (.int 0))) (tCall (sp_is_text K) [] E0 (tCons (tCall (sp_part_at K) [] E0 (tCons (tVar 0) (tCons (tOp (rAddB K) (tSl (rSlB K) (tVar 1) tNoPart (tPart (tUn (rU fun i => .int (-i)) (tC (.int 1))))) (tTup (tCons (tOp (rI0 fun i j => .int (i - j)) (tVar 2) (tC (.int 1))) tNil))) tNil))) tNil))))
def sp_follows_text (K : PySem.W.Frag) : Sp := fun vs H Q _ => ∃ (t p u : Tr) (v : V) (a : Addr) (q : List Int) (k : Nat) (ws : List Tr), vs = [v, .ref a] ∧ Dv K H t.da v ∧ SqT K H a (intV (q ++ [(k : Int)])) ∧ way t q = some (ws ++ [p]) ∧ p.kids[k]? = some u ∧ q.length ≤ 40000 ∧ ∀ H', Same H H' → Q (.bl (bsd p k)) H'
theorem len_follows_text (K : PySem.W.Frag) : ∀ vs H Q E, sp_follows_text K vs H Q E → vs.length = ["tree", "place"].length := by rintro vs H Q E ⟨t, p, u, v, a, q, k, ws, rfl, _⟩; rfl
def R_follows_text (K : PySem.W.Frag) : TS :=
 (tSeq (tAsg (tOp (rIxA K) (tVar 1) (tUn (rU fun i => .int (-i)) (tC (.int 1)))) (gName 2))
 (T_follows_text_0 K))
theorem rd_follows_text (h : sp_follows_text K vs H Q E) : R_follows_text K { nx := fun _ H' => Q .non H', rt := Q } (start ["tree", "place", "number"] vs) H := by
  obtain ⟨t, p, u, v, a, q, k, ws, rfl, hd, ha, hw, hk, hl, qq⟩ := h
  show R_follows_text K _ [some v, some (.ref a), none] H
  unfold R_follows_text
  rw [intV_snoc] at ha
  walk_at "step"
  refine ⟨1, rfl, ?_⟩
  refine v_ixT ha (v := .int k) (atI_last (n := (intV q).length) (by simp) (by simp)) ?_
  walk_at "step"
  by_cases h0 : 0 < k
  · rw [decide_eq_true (by omega)]
    refine iteT ?_
    walk_at "step"
    refine ⟨1, rfl, ?_⟩
    walk_at "step"
    refine v_slT ha fun p1 H1 s1 hp1 => ?_
    rw [cut_last] at hp1
    walk_at "step"
    refine ⟨sl64 (by simp), fun c hc => ?_⟩
    refine v_catT ((Same.new hc _ : Same H1 _).sqT hp1) (SqT.of upd_same) (by rw [intV_len]; exact sl64 (by simp; omega)) fun p2 H2 s2 hp2 => ?_
    walk_at "step"
    have s3 : Same H H2 := Same.tr s1 (Same.tr (Same.new hc _) s2)
    obtain ⟨j, rfl⟩ : ∃ j, k = j + 1 := ⟨k - 1, by omega⟩
    have hj : j < p.kids.length := by have := (List.getElem?_eq_some_iff.mp hk).1; omega
    have hkj := List.getElem?_eq_getElem hj
    refine ⟨t, p.kids[j], v, p2, q ++ [(j : Int)], ws ++ [p], rfl, Dv.same s3 _ _ hd, ?_, way_snoc hw hkj, by simp; omega, fun x H3 s4 dx => ?_⟩
    · rw [intV_snoc]
      have e : ((j + 1 : Nat) : Int) - 1 = (j : Int) := by omega
      rw [e] at hp2
      exact hp2
    walk_at "step"
    refine ⟨_, x, rfl, dx, ?_⟩
    have := qq H3 (Same.tr s3 s4)
    unfold bsd at this
    rw [decide_eq_true h0, Nat.add_sub_cancel, hkj] at this
    exact this
  · rw [decide_eq_false (by omega)]
    refine iteF ?_
    have := qq H (fun _ _ e => e)
    unfold bsd at this
    rw [decide_eq_false h0] at this
    exact this
@[reducible] def T_fault_at_0 (K : PySem.W.Frag) : TS :=
 (tRet (tCall (sp_text_fault K) [] E0 (tCons (tVar 0) (tCons (tVar 4) (tCons (tVar 3) (tCons (tCall (sp_follows_text K) [] E0 (tCons (tVar 1) (tCons (tVar 2) tNil))) tNil))))))
@[reducible] def T_fault_at_1 (K : PySem.W.Frag) : TS :=
 (tSeq (tIfS (tB (tCall (sp_is_text K) [] E0 (tCons (tVar 3) tNil)))
 (T_fault_at_0 K) tNext)
 (tRet (tCall (sp_tree_fault K) [] E0 (tCons (tVar 0) (tCons (tVar 4) (tCons (tVar 3) tNil))))))
@[reducible] def T_fault_at_2 (K : PySem.W.Frag) : TS :=
 (tSeq (tAsg (tCall (sp_names_above K) [] E0 (tCons (tVar 1) (tCons (tVar 2) tNil))) (gName 4))
 (T_fault_at_1 K))
def sp_fault_at (K : PySem.W.Frag) : Sp := fun vs H Q _ => ∃ (t p u : Tr) (bv v : V) (rs : List Row) (a : Addr) (q : List Int) (k : Nat) (ws : List Tr), vs = [bv, v, .ref a] ∧ Rws K H bv rs ∧ Dv K H t.da v ∧ SqT K H a (intV (q ++ [(k : Int)])) ∧ way t q = some (ws ++ [p]) ∧ p.kids[k]? = some u ∧ q.length ≤ 900 ∧ ∀ H', Same H H' → Q (oV (faultF rs (((ws ++ [p]).drop 1).map nmOf) u (bsd p k))) H'
theorem len_fault_at (K : PySem.W.Frag) : ∀ vs H Q E, sp_fault_at K vs H Q E → vs.length = ["book", "tree", "place"].length := by rintro vs H Q E ⟨t, p, u, bv, v, rs, a, q, k, ws, rfl, _⟩; rfl
def R_fault_at (K : PySem.W.Frag) : TS :=
 (tSeq (tAsg (tCall (sp_part_at K) [] E0 (tCons (tVar 1) (tCons (tVar 2) tNil))) (gName 3))
 (T_fault_at_2 K))
theorem rd_fault_at (h : sp_fault_at K vs H Q E) : R_fault_at K { nx := fun _ H' => Q .non H', rt := Q } (start ["book", "tree", "place", "part", "names"] vs) H := by
  obtain ⟨t, p, u, bv, v, rs, a, q, k, ws, rfl, hR, hd, ha, hw, hk, hl, qq⟩ := h
  show R_fault_at K _ [some bv, some v, some (.ref a), none, none] H
  unfold R_fault_at
  have hw2 := way_snoc hw hk
  have hwl := way_len hw
  walk_at "step"
  refine ⟨t, u, v, a, _, ws ++ [p], rfl, hd, ha, hw2, by simp; omega, fun x H1 s1 dx => ?_⟩
  walk_at "step"
  have hh := way_head hw
  have hnd := way_nd hw (kid_nd hk)
  refine ⟨t, u, v, a, q ++ [(k : Int)], (ws ++ [p]).drop 1, rfl, Dv.same s1 _ _ hd, s1.sqT ha, ?_, fun w hw' => hnd w (List.mem_of_mem_drop hw'), by simp; omega, fun c H2 s2 hc => ?_⟩
  · rw [hw2]
    conv => lhs; rw [hh]
    rfl
  walk_at "step"
  have s12 := Same.tr s1 s2
  have hnl : (((ws ++ [p]).drop 1).map nmOf).length ≤ 1000 := by rw [List.length_map, List.length_drop]; omega
  refine ⟨u, x, rfl, Dv.same s2 _ _ dx, ?_⟩
  walk_at "step"
  cases u with
  | tx s =>
    refine iteT ?_
    walk_at "step"
    rw [tr_tx dx]
    refine ⟨t, p, .tx s, v, a, q, k, ws, rfl, Dv.same s12 _ _ hd, s12.sqT ha, hw, hk, by omega, fun H3 s3 => ?_⟩
    walk_at "step"
    exact ⟨bv, rs, c, _, s, _, rfl, hR.same (Same.tr s12 s3), SqT.of (s3 _ _ hc), qq H3 (Same.tr s12 s3)⟩
  | nd n ps =>
    refine iteF ?_
    walk_at "step"
    exact ⟨bv, rs, c, _, n, ps, x, rfl, hR.same s12, SqT.of hc, hnl, Dv.same s2 _ _ dx, fun H3 s3 => qq H3 (Same.tr s12 s3)⟩
mutual
def ffk (rs : List Row) (pl : List Int) (ns : List Str) : Tr → List (List Int × Option Str)
  | .tx _ => []
  | .nd _ ps => ffs rs pl ns 0 false ps
def ffs (rs : List Row) (pl : List Int) (ns : List Str) (k : Nat) (bs : Bool) : List Tr → List (List Int × Option Str)
  | [] => []
  | u :: us => (pl ++ [(k : Int)], faultF rs ns u bs) :: (ffk rs (pl ++ [(k : Int)]) (ns ++ [nmOf u]) u ++ ffs rs pl ns (k + 1) u.isTx us)
end
mutual
theorem ffk_pre (rs : List Row) (pl : List Int) (ns : List Str) : ∀ t : Tr, (pre pl t).map (·.1) = pl :: (ffk rs pl ns t).map (·.1)
  | .tx s => by rw [pre, ffk]; rfl
  | .nd n ps => by rw [pre, ffk, List.map_cons, ffs_pre rs pl ns 0 false ps]
theorem ffs_pre (rs : List Row) (pl : List Int) (ns : List Str) (k : Nat) (bs : Bool) : ∀ ts : List Tr, (pres pl k ts).map (·.1) = (ffs rs pl ns k bs ts).map (·.1)
  | [] => by rw [pres, ffs]; rfl
  | u :: us => by
    rw [pres, ffs, List.map_append, ffk_pre rs _ (ns ++ [nmOf u]) u, ffs_pre rs pl ns (k + 1) u.isTx us, List.map_cons, List.map_append]; rfl
end
def Row1 (rs : List Row) (t : Tr) (x : List Int × Option Str) : Prop := ∃ (q : List Int) (k : Nat) (ws : List Tr) (p u : Tr), x.1 = q ++ [(k : Int)] ∧ way t q = some (ws ++ [p]) ∧ p.kids[k]? = some u ∧ x.2 = faultF rs (((ws ++ [p]).drop 1).map nmOf) u (bsd p k)
mutual
theorem ffk_rows (rs : List Row) (t : Tr) (q : List Int) (ns : List Str) (ws : List Tr) : ∀ p : Tr, way t q = some (ws ++ [p]) → ns = ((ws ++ [p]).drop 1).map nmOf → ∀ x ∈ ffk rs q ns p, Row1 rs t x
  | .tx s, _, _, x, hx => by rw [ffk] at hx; cases hx
  | .nd n ps, hw, hn, x, hx => by
    rw [ffk] at hx
    exact ffs_rows rs t q ns ws (.nd n ps) hw hn [] ps rfl rfl 0 false rfl rfl x hx
theorem ffs_rows (rs : List Row) (t : Tr) (q : List Int) (ns : List Str) (ws : List Tr) (p : Tr) (hw : way t q = some (ws ++ [p])) (hn : ns = ((ws ++ [p]).drop 1).map nmOf) :
    ∀ (done ts : List Tr), p.kids = done ++ ts → True = True → ∀ (k : Nat) (bs : Bool), k = done.length → bs = (match done.getLast? with | some w => w.isTx | none => false) → ∀ x ∈ ffs rs q ns k bs ts, Row1 rs t x
  | done, [], _, _, k, bs, _, _, x, hx => by rw [ffs] at hx; cases hx
  | done, u :: us, hk, _, k, bs, hl, hb, x, hx => by
    have ek : p.kids[k]? = some u := by rw [hk, hl]; simp
    rw [ffs, List.mem_cons, List.mem_append] at hx
    rcases hx with rfl | hx | hx
    · refine ⟨q, k, ws, p, u, rfl, hw, ek, ?_⟩
      show faultF rs ns u bs = _
      rw [hn]
      congr 1
      unfold bsd
      rw [hb]
      cases k with
      | zero =>
        have : done = [] := List.length_eq_zero_iff.mp hl.symm
        subst this; rfl
      | succ j =>
        have hj : j < done.length := by omega
        rw [decide_eq_true (by omega), Nat.add_sub_cancel, hk, List.getElem?_append_left hj, List.getLast?_eq_getElem?, ← hl, Nat.add_sub_cancel, List.getElem?_eq_getElem hj]
        rfl
    · have hw2 := way_snoc hw ek
      refine ffk_rows rs t _ _ (ws ++ [p]) u hw2 ?_ x hx
      rw [hn, show ((ws ++ [p]) ++ [u]).drop 1 = (ws ++ [p]).drop 1 ++ [u] from List.drop_append_of_le_length (by simp), List.map_append]; rfl
    · exact ffs_rows rs t q ns ws p hw hn (done ++ [u]) us (by rw [hk]; simp) rfl (k + 1) u.isTx (by simp [hl]) (by simp) x hx
end
theorem ffk_root (rs : List Row) (t : Tr) : ∀ x ∈ ffk rs [] [] t, Row1 rs t x := ffk_rows rs t [] [] [] t (by rw [way]; rfl) rfl
theorem eqv_unit (ns : List Int) : PyData.eqv (.tuple (intD ns)) (.tuple []) = ns.isEmpty := by cases ns <;> rfl
end My
namespace My
open PySem L2
variable {K : PySem.W.Frag} {vs : List V} {H : Hp} {Q : VK} {E : XK}
def row0 : Row := ⟨"", "", "", [], []⟩
def rowL (rs : List Row) (n : Str) : Row := (rowOf rs (some n)).getD row0
structure BkS (rs : List Row) : Prop where
  ne : ∀ r ∈ rs, r.name ≠ ("" : Str)
  so : ∀ r ∈ rs, r.sort ≠ ("" : Str)
  nf : ∀ r ∈ rs, r.sort ≠ ("frame" : Str) → r.host = ("" : Str)
  un : ∀ n : Str, n ≠ ("" : Str) → (rs.filter fun r => decide (r.host = n)).length ≤ 1
theorem wall_L (rs : List Row) (n : Str) : wall rs n = decide ((rowL rs n).sort ∈ [("room" : Str), ("frame" : Str)]) := by
  unfold wall rowL
  cases rowOf rs (some n) with
  | none => rfl
  | some r => rfl
theorem host_L (rs : List Row) (n : Str) : hostOf rs (some n) = if (rowL rs n).sort = ("frame" : Str) then some (rowL rs n).host else none := by
  unfold hostOf rowL
  cases rowOf rs (some n) with
  | none => rfl
  | some r => rfl
theorem sort_L {rs : List Row} (B : BkS rs) (n : Str) : sortOf rs (some n) = if (rowL rs n).sort = ("" : Str) then none else some (rowL rs n).sort := by
  unfold sortOf rowL
  cases e : rowOf rs (some n) with
  | none => rfl
  | some r =>
    have := B.so r (row_some e).1
    show some r.sort = if r.sort = ("" : Str) then none else some r.sort
    rw [if_neg this]
theorem find_head {p : Row → Bool} : ∀ l : List Row, l.find? p = (l.filter p).head?
  | [] => rfl
  | r :: l => by
    rw [List.find?_cons, List.filter_cons]
    cases e : p r with
    | true => rfl
    | false => exact find_head l
theorem frame_L {rs : List Row} (B : BkS rs) {n : Str} (hn : n ≠ ("" : Str)) : frameOf rs (some n) = ((rs.filter fun r => decide (r.host = n)).map (·.name)).head? := by
  unfold frameOf
  have e : (rs.filter fun r => decide (r.sort = ("frame" : Str)) && decide (some r.host = some n)) = rs.filter fun r => decide (r.host = n) := by
    apply List.filter_congr
    intro r hr
    by_cases h : r.host = n
    · have hs : r.sort = ("frame" : Str) := by
        by_cases hs : r.sort = ("frame" : Str)
        · exact hs
        · exact absurd (h.symm.trans (B.nf r hr hs)) hn
      simp [h, hs]
    · simp [h]
  rw [find_head, e, List.head?_map]
theorem row0_parts {p a b : Addr} (h : SqT K H p [.str ("" : Str), .str ("" : Str), .str ("" : Str), .ref a, .ref b]) (ha : SqT K H a []) (hb : SqT K H b []) : Dv K H row0.da (.ref p) := by
  unfold Row.da row0
  exact dv_tuple.mpr ⟨p, _, rfl, h, dvs_cons (dv_str.mpr rfl) (dvs_cons (dv_str.mpr rfl) (dvs_cons (dv_str.mpr rfl) (dvs_cons (dv_tuple.mpr ⟨a, [], rfl, ha, dvs_nil⟩) (dvs_cons (dv_tuple.mpr ⟨b, [], rfl, hb, dvs_nil⟩) dvs_nil))))⟩
@[reducible] def T__law_row_0 (K : PySem.W.Frag) : TS :=
 (tRet (tTup (tCons (tC (.str ("" : Str))) (tCons (tC (.str ("" : Str))) (tCons (tC (.str ("" : Str))) (tCons (tTup tNil) (tCons (tTup tNil) tNil)))))))
def sp__law_row (K : PySem.W.Frag) : Sp := fun vs H Q _ => ∃ v n rs, vs = [v, .str n] ∧ Rws K H v rs ∧ ∀ u H', Same H H' → Dv K H' (rowL rs n).da u → Q u H'
theorem len__law_row (K : PySem.W.Frag) : ∀ vs H Q E, sp__law_row K vs H Q E → vs.length = ["_law_book_here", "_law_name_here"].length := by rintro vs H Q E ⟨v, n, rs, rfl, _⟩; rfl
def R__law_row (K : PySem.W.Frag) : TS :=
 (tSeq (tFor (iAny K (tVar 0)) (gName 2)
 (tIfS (tTest (tOp (rEqA K) (tOp (rIxA K) (tVar 2) (tC (.int 0))) (tVar 1)))
 (tRet (tVar 2)) tNext))
 (T__law_row_0 K))
theorem rd__law_row (h : sp__law_row K vs H Q E) : R__law_row K { nx := fun _ H' => Q .non H', rt := Q } (start ["_law_book_here", "_law_name_here", "_law_row_here"] vs) H := by
  obtain ⟨v, n, rs, rfl, ⟨a, xs, rfl, hq, hd⟩, q⟩ := h
  show R__law_row K _ [some (.ref a), some (.str n), none] H
  have hlen : xs.length = rs.length := by have := hd.length; simpa using this
  unfold R__law_row
  walk_at "step"
  let Pv0 : Nat → St → Hp → Prop := fun i σ H' => H' = H ∧ (∃ w, σ = [some (.ref a), some (.str n), w]) ∧ ∀ r ∈ rs.take i, decide (some r.name = some n) = false
  refine any_forS (H0 := H) hq (fun _ _ e => e) Pv0 ⟨rfl, ⟨_, rfl⟩, by simp⟩ (fun i σ H' p => p.1 ▸ fun _ _ e => e) ?_ ?_
  · rintro i x σ H' hx ⟨rfl, ⟨w, rfl⟩, hn⟩
    obtain ⟨d, hd1, hd2⟩ := hd.get' hx
    rw [List.getElem?_map] at hd1
    obtain ⟨r, hr, rfl⟩ := Option.map_eq_some_iff.mp hd1
    obtain ⟨b, sv, bv, rfl, hb, hsv, hbv⟩ := row_parts hd2
    walk_at "step"
    refine v_ixT hb (v := .str r.name) (atI_nat (j := 0) rfl) ?_
    walk_at "step"
    by_cases e : r.name = n
    · rw [decide_eq_true e]; refine iteT ?_
      walk_at "step"
      have hf : rowOf rs (some n) = some r := find_none_snoc hr hn (by simp [e])
      refine q _ _ (fun _ _ e => e) ?_
      unfold rowL
      rw [hf]; exact hd2
    · rw [decide_eq_false e]; refine iteF ?_
      walk_at "step"
      exact ⟨rfl, ⟨_, rfl⟩, take_all hr hn (by simp [e])⟩
  · rintro σ H' ⟨rfl, ⟨w, rfl⟩, hn⟩
    walk_at "step"
    refine ⟨sl64 (by simp), fun p1 hp1 => ?_⟩
    walk_at "step"
    refine ⟨sl64 (by simp), fun p2 hp2 => ?_⟩
    walk_at "step"
    refine ⟨sl64 (by simp), fun p3 hp3 => ?_⟩
    have s1 := Same.new hp1 (.tup [])
    have s2 := Same.new hp2 (.tup [])
    have s3 := Same.new hp3 (.tup [.str ("" : Str), .str ("" : Str), .str ("" : Str), .ref p1, .ref p2])
    refine q _ _ (Same.tr s1 (Same.tr s2 s3)) ?_
    have hf : rowOf rs (some n) = none := by
      unfold rowOf
      rw [List.find?_eq_none]
      intro r hr
      rw [hlen, List.take_length] at hn
      simpa using hn r hr
    unfold rowL
    rw [hf]
    exact row0_parts (SqT.of upd_same) (SqT.of (s3 _ _ (s2 _ _ upd_same))) (SqT.of (s3 _ _ upd_same))
@[reducible] def T__law_near_0 (K : PySem.W.Frag) : TS :=
 (tAsg (tCB (rListA K) (tCons (tSl (rSlB K) (tVar 1) (tPart (tOp (rAddB K) (tVar 3) (tC (.int 1)))) tNoPart) tNil)) (gName 2))
@[reducible] def T__law_near_1 (K : PySem.W.Frag) : TS :=
 (tIfS (tTest (tOp (rInB K false) (tOp (rIxA K) (tCall (sp__law_row K) [] E0 (tCons (tVar 0) (tCons (tOp (rIxA K) (tVar 1) (tVar 3)) tNil))) (tC (.int 1))) (tTup (tCons (tC (.str ("room" : Str))) (tCons (tC (.str ("frame" : Str))) tNil)))))
 (T__law_near_0 K) tNext)
@[reducible] def T__law_near_2 (K : PySem.W.Frag) : TS :=
 (tSeq (tFor (iRng1 (tCons (tCB (rLenA K) (tCons (tVar 1) tNil)) tNil)) (gName 3)
 (T__law_near_1 K))
 (tRet (tVar 2)))
def sp__law_near (K : PySem.W.Frag) : Sp := fun vs H Q _ => ∃ v a ys rs, vs = [v, .ref a] ∧ Rws K H v rs ∧ SqT K H a (strV ys) ∧ ys.length ≤ 1000 ∧ ∀ p H', Same H H' → H' p = some (.lst (strV (near rs ys))) → Q (.ref p) H'
theorem len__law_near (K : PySem.W.Frag) : ∀ vs H Q E, sp__law_near K vs H Q E → vs.length = ["_law_book_here", "_law_names"].length := by rintro vs H Q E ⟨v, a, ys, rs, rfl, _⟩; rfl
def R__law_near (K : PySem.W.Frag) : TS :=
 (tSeq (tAsg (tCB (rListA K) (tCons (tVar 1) tNil)) (gName 2))
 (T__law_near_2 K))
theorem rd__law_near (h : sp__law_near K vs H Q E) : R__law_near K { nx := fun _ H' => Q .non H', rt := Q } (start ["_law_book_here", "_law_names", "_law_near_here", "_law_k"] vs) H := by
  obtain ⟨v, a, ys, rs, rfl, hR, hq, hl, q⟩ := h
  show R__law_near K _ [some v, some (.ref a), none, none] H
  unfold R__law_near
  walk_at "step"
  refine ⟨a, _, rfl, .inr hq, fun nr hnr => ?_⟩
  have s0 : Same H (upd H nr (.lst (strV ys))) := Same.new hnr _
  have n0 : (upd H nr (.lst (strV ys))) nr = some (.lst (strV ys)) := upd_same
  generalize upd H nr (.lst (strV ys)) = H1 at *
  walk_at "step"
  refine v_lenQ (.inr (s0.sqT hq)) ?_
  rw [strV_len]
  walk_at "step"
  let Pv1 : Nat → St → Hp → Prop := fun i σ H' => Same H H' ∧ ∃ (st : Nat) (nr : Addr) (a3 : Option V), σ = [some v, some (.ref a), some (.ref nr), a3] ∧ st ≤ i ∧ H' nr = some (.lst (strV (ys.drop st))) ∧ near rs (ys.take i) = (ys.take i).drop st
  refine rng1_for (by omega) (by omega) Pv1 ⟨s0, 0, nr, none, rfl, Nat.le_refl _, n0, rfl⟩ ?_ ?_
  · rintro i σ H' hi ⟨s1, st, nr, a3, rfl, hst, hnr, hne⟩
    have hi : i < ys.length := by omega
    have hy : ys[i]? = some ys[i] := List.getElem?_eq_getElem hi
    have etk : ys.take (i + 1) = ys.take i ++ [ys[i]] := by rw [List.take_add_one, hy]; rfl
    walk_at "step"
    refine v_ixT (s1.sqT hq) (atI_nat (strV_at hi)) ?_
    walk_at "step"
    refine ⟨v, ys[i], rs, rfl, hR.same s1, fun u H2 s2 du => ?_⟩
    walk_at "step"
    obtain ⟨b, sv, bv, rfl, hb, _, _⟩ := row_parts du
    refine v_ixT hb (v := .str (rowL rs ys[i]).sort) (atI_nat (j := 1) rfl) ?_
    walk_at "step"
    refine ⟨sl64 (by simp), fun t ht => ?_⟩
    have s3 : Same H (upd H2 t (.tup [.str ("room" : Str), .str ("frame" : Str)])) := Same.tr s1 (Same.tr s2 (Same.new ht _))
    have hnr3 := Same.new ht (.tup [.str ("room" : Str), .str ("frame" : Str)]) _ _ (s2 _ _ hnr)
    refine .inl (v_in (xs := strV [("room" : Str), ("frame" : Str)]) (.inr (SqT.of upd_same)) rfl (flat_strV _) ?_)
    rw [inV_strV, ← wall_L]
    generalize upd H2 t (.tup [.str ("room" : Str), .str ("frame" : Str)]) = H3 at *
    walk_at "step"
    cases hw : wall rs ys[i] with
    | true =>
      refine iteT ?_
      walk_at "step"
      refine .inl (v_addI ?_)
      walk_at "step"
      refine v_slT (s3.sqT hq) fun p H4 s4 hp => ?_
      have e : cutV (strV ys) (some ((i : Int) + 1)) none = strV (ys.drop (i + 1)) := by
        unfold cutV
        rw [show ((i : Int) + 1) = ((i + 1 : Nat) : Int) by omega, HT.sIx_nat]
        show ((strV ys).drop (min (i + 1) (strV ys).length)).take ((strV ys).length - min (i + 1) (strV ys).length) = _
        rw [strV_len, Nat.min_eq_left (by omega), List.take_of_length_le (by rw [List.length_drop, strV_len]; exact Nat.le_refl _)]
        unfold strV
        rw [List.map_drop]
      rw [e] at hp
      walk_at "step"
      refine ⟨p, _, rfl, .inr hp, fun r hr => ?_⟩
      walk_at "step"
      refine ⟨Same.tr s3 (Same.tr s4 (Same.new hr _)), i + 1, r, _, rfl, Nat.le_refl _, upd_same, ?_⟩
      rw [etk, near_snoc, if_pos hw, List.drop_eq_nil_of_le (by rw [List.length_append, List.length_take, List.length_singleton]; omega)]
    | false =>
      refine iteF ?_
      walk_at "step"
      refine ⟨s3, st, nr, _, rfl, by omega, hnr3, ?_⟩
      rw [etk, near_snoc, if_neg (by rw [hw]; exact Bool.false_ne_true), hne, List.drop_append_of_le_length (by rw [List.length_take]; omega)]
  · rintro σ H' ⟨s1, st, nr, a3, rfl, hst, hnr, hne⟩
    walk_at "step"
    refine q nr H' s1 ?_
    rw [show ((ys.length : Int)).toNat = ys.length by omega, List.take_length] at hne
    rw [hne]; exact hnr
@[reducible] def T__law_fault_0 (K : PySem.W.Frag) : TS :=
 (tSeq (tIfS (tB (tCB (rIsi K) (tCons (tVar 3) (tCons (tC (.ty "str")) tNil))))
 (tRet (tC (.str ("beside" : Str)))) tNext)
 (tRet (tC .non)))
@[reducible] def T__law_fault_1 (K : PySem.W.Frag) : TS :=
 (tSeq (tIfS (tTest (tOp (rEqA K) (tVar 2) (tC (.str ("" : Str)))))
 (tRet (tC (.str ("empty" : Str)))) tNext)
 (T__law_fault_0 K))
@[reducible] def T__law_fault_2 (K : PySem.W.Frag) : TS :=
 (tSeq (tIfS (tTest (tOp (rEqA K) (tOp (rIxA K) (tVar 5) (tC (.int 1))) (tC (.str ("frame" : Str)))))
 (tRet (tC (.str ("guest" : Str)))) tNext)
 (T__law_fault_1 K))
@[reducible] def T__law_fault_3 (K : PySem.W.Frag) : TS :=
 (tSeq (tIfS (tTest (tOp (rNeA K) (tComp [some 10, none] (iAny K (tVar 12)) (gName 1) (tTest (tOp (rInB K false) (tVar 1) (tVar 0))) (tVar 1)) (tLst tNil)))
 (tRet (tC (.str ("barred" : Str)))) tNext)
 (tRet (tC .non)))
@[reducible] def T__law_fault_4 (K : PySem.W.Frag) : TS :=
 (tSeq (tIfS (tTest (tOp (rNeA K) (tComp [some 9, none] (iAny K (tVar 12)) (gName 1) (tTest (tOp (rInB K false) (tVar 1) (tVar 0))) (tVar 1)) (tLst tNil)))
 (tRet (tC (.str ("shut" : Str)))) tNext)
 (T__law_fault_3 K))
def fltN (K : PySem.W.Frag) : TS :=
 (tSeq (tAsg (tCall (sp__law_near K) [] E0 (tCons (tVar 0) (tCons (tVar 1) tNil))) (gName 12))
 (T__law_fault_4 K))
@[reducible] def T__law_fault_6 (K : PySem.W.Frag) : TS :=
 (tSeq (tIfS (tAnd (tTest (tOp (rNeA K) (tVar 11) (tLst tNil))) (tTest (tOp (rNeA K) (tVar 11) (tLst (tCons (tVar 4) tNil)))))
 (tRet (tC (.str ("lost" : Str)))) tNext)
 (fltN K))
def fltL (K : PySem.W.Frag) : TS :=
 (tSeq (tAsg (tComp [some 6, none] (iAny K (tVar 0)) (gName 1) (tTest (tOp (rEqA K) (tOp (rIxA K) (tVar 1) (tC (.int 2))) (tVar 0))) (tOp (rIxA K) (tVar 1) (tC (.int 0)))) (gName 11))
 (T__law_fault_6 K))
@[reducible] def T__law_fault_8 (K : PySem.W.Frag) : TS :=
 (tSeq (tIfS (tAnd (tTest (tOp (rEqA K) (tOp (rIxA K) (tVar 5) (tC (.int 1))) (tC (.str ("frame" : Str))))) (tTest (tOp (rNeA K) (tOp (rIxA K) (tVar 5) (tC (.int 2))) (tVar 6))))
 (tRet (tC (.str ("guest" : Str)))) tNext)
 (fltL K))
def fltD (K : PySem.W.Frag) : TS :=
 (tSeq (tIfS (tTest (tOp rGeA (tCB (rLenA K) (tCons (tVar 1) tNil)) (tC (.int 20))))
 (tRet (tC (.str ("deep" : Str)))) tNext)
 (T__law_fault_8 K))
@[reducible] def T__law_fault_10 (K : PySem.W.Frag) : TS :=
 (tSeq (tIfS (tAnd (tTest (tOp (rEqA K) (tVar 7) (tC (.str ("bare" : Str))))) (tTest (tOp rGtA (tCB (rLenA K) (tCons (tOp (rIxA K) (tVar 2) (tC (.int 1))) tNil)) (tC (.int 0)))))
 (tRet (tC (.str ("full" : Str)))) tNext)
 (fltD K))
@[reducible] def T__law_fault_11 (K : PySem.W.Frag) : TS :=
 (tSeq (tIfS (tTest (tOp (rEqA K) (tVar 7) (tC (.str ("" : Str)))))
 (tRet (tC (.str ("strange" : Str)))) tNext)
 (T__law_fault_10 K))
def fltT (K : PySem.W.Frag) : TS :=
 (tSeq (tAsg (tCall (sp__law_row K) [] E0 (tCons (tVar 0) (tCons (tOp (rIxA K) (tVar 2) (tC (.int 0))) tNil))) (gTup K 5 (gCons (gName 6) (gCons (gName 7) (gCons (gName 8) (gCons (gName 9) (gCons (gName 10) gNil)))))))
 (T__law_fault_11 K))
@[reducible] def T__law_fault_13 (K : PySem.W.Frag) : TS :=
 (tSeq (tIfS (tB (tCB (rIsi K) (tCons (tVar 2) (tCons (tC (.ty "str")) tNil))))
 (T__law_fault_2 K) tNext)
 (fltT K))
def fltA (K : PySem.W.Frag) : TS :=
 (tSeq (tAsg (tCall (sp__law_row K) [] E0 (tCons (tVar 0) (tCons (tVar 4) tNil))) (gName 5))
 (T__law_fault_13 K))
theorem isE_sDa (xs : List Str) : (sDa xs).isEmpty = xs.isEmpty := by cases xs <;> rfl
theorem filt_any (p : Str → Bool) : ∀ xs : List Str, (!(xs.filter p).isEmpty) = xs.any p
  | [] => rfl
  | x :: xs => by
    rw [List.filter_cons, List.any_cons]
    cases p x with
    | true => rfl
    | false => rw [if_neg Bool.false_ne_true, filt_any p xs]; rfl
theorem eqv_strsT (xs : List Str) : PyData.eqv (.tuple (sDa xs)) (.tuple []) = xs.isEmpty := by cases xs <;> rfl
theorem comp_in {Q : VK} {sa p : Addr} {nr shuts : List Str} (hs : SqT K H sa (strV shuts)) (hp : H p = some (.lst (strV nr))) (hl : nr.length ≤ 1000) (q : ∀ H', Same H H' → Q (.bl (nr.any fun y => decide (y ∈ shuts))) H') :
    ∃ b, V.ref p = .ref b ∧ (((∃ xs, SqL K H b xs) ∧ CompW (gName 1) (tTest (tOp (rInB K false) (tVar 1) (tVar 0))) (tVar 1) [some (.ref sa), none] (fun x H1 => tLst tNil [] H1 fun y H2 => rNeA K x y H2 Q) (Itl K b) H) ∨ ((∃ xs, SqT K H b xs) ∧ CompW (gName 1) (tTest (tOp (rInB K false) (tVar 1) (tVar 0))) (tVar 1) [some (.ref sa), none] (fun x H1 => tLst tNil [] H1 fun y H2 => rNeA K x y H2 Q) (Itt K b) H)) := by
  let Pv2 : Nat → List V → Hp → Prop := fun i ys H' => H' = H ∧ ys = strV ((nr.take i).filter fun y => decide (y ∈ shuts))
  refine any_compL (xs := strV nr) (SqL.of hp) Pv2 ⟨rfl, rfl⟩ ?_ ?_ ?_ ?_
  · rintro i ys H' hi ⟨rfl, rfl⟩
    rw [strV_len]
    exact sl64 (Nat.le_trans (List.length_filter_le _ _) (by rw [List.length_take]; omega))
  · rintro i ys H' hi ⟨rfl, _⟩
    exact SqL.of hp
  · rintro i x ys H' hx ⟨rfl, rfl⟩
    obtain ⟨y, hy, rfl⟩ := strV_get hx
    walk_at "step"
    refine .inl (v_in (xs := strV shuts) (.inr hs) rfl (flat_strV _) ?_)
    rw [inV_strV]
    have etk : nr.take (i + 1) = nr.take i ++ [y] := by rw [List.take_add_one, hy]; rfl
    refine ⟨_, rfl, ?_⟩
    by_cases h : y ∈ shuts
    · rw [decide_eq_true h]; refine iteT ?_
      walk_at "step"
      refine ⟨rfl, ?_⟩
      rw [etk, List.filter_append, strV_app]
      simp [h]
    · rw [decide_eq_false h]; refine iteF ?_
      refine ⟨rfl, ?_⟩
      rw [etk, List.filter_append]
      simp [h]
  · rintro ys H' ⟨rfl, rfl⟩ r hr
    have e : nr.take (strV nr).length = nr := by rw [strV_len, List.take_length]
    rw [e]
    have s1 := Same.new hr (.lst (strV (nr.filter fun y => decide (y ∈ shuts))))
    walk_at "step"
    refine ⟨sl64 (by simp), fun e he => ?_⟩
    have s2 := Same.new he (.lst [])
    refine v_neE (ds := sDa (nr.filter fun y => decide (y ∈ shuts))) (dv_list.mpr ⟨r, _, rfl, SqL.of (s2 _ _ upd_same), dvs_sDa.mpr rfl⟩) upd_same ?_
    rw [isE_sDa, filt_any]
    exact q _ (Same.tr s1 s2)
section
variable {D : Ends} {v pv av : V} {na sa ba : Addr} {rs : List Row} {ns : List Str} {a2 a3 a4 a5 a6 a7 a8 a11 a12 : Option V} {shuts bars : List Str}
theorem flt_N (hR : Rws K H v rs) (hna : SqT K H na (strV ns)) (hl : ns.length ≤ 1000) (hs : SqT K H sa (strV shuts)) (hb : SqT K H ba (strV bars))
    (q : ∀ H', Same H H' → D.rt (oV (if ((near rs ns).any fun y => decide (y ∈ shuts)) then some ("shut" : Str) else if ((near rs ns).any fun y => decide (y ∈ bars)) then some ("barred" : Str) else none)) H') :
    fltN K D [some v, some (.ref na), a2, a3, a4, a5, a6, a7, a8, some (.ref sa), some (.ref ba), a11, a12] H := by
  unfold fltN
  walk_at "step"
  refine ⟨v, na, ns, rs, rfl, hR, hna, hl, fun p H1 s1 hp => ?_⟩
  have hnl : (near rs ns).length ≤ 1000 := Nat.le_trans (near_len rs ns.length ns rfl) hl
  walk_at "step"
  refine comp_in (s1.sqT hs) hp hnl fun H2 s2 => ?_
  walk_at "step"
  cases e : (near rs ns).any fun y => decide (y ∈ shuts) with
  | true =>
    refine iteT ?_
    walk_at "step"
    rw [e] at q
    exact q H2 (Same.tr s1 s2)
  | false =>
    refine iteF ?_
    rw [e] at q
    walk_at "step"
    refine comp_in (s2.sqT (s1.sqT hb)) (s2 _ _ hp) hnl fun H3 s3 => ?_
    walk_at "step"
    have s13 := Same.tr s1 (Same.tr s2 s3)
    cases e2 : (near rs ns).any fun y => decide (y ∈ bars) with
    | true =>
      refine iteT ?_
      walk_at "step"
      rw [e2] at q
      exact q H3 s13
    | false =>
      refine iteF ?_
      rw [e2] at q
      walk_at "step"
      exact q H3 s13
theorem flt_L {n above : Str} (B : BkS rs) (hn : n ≠ ("" : Str)) (hR : Rws K H v rs) (hrl : rs.length ≤ 1000) (hna : SqT K H na (strV ns)) (hl : ns.length ≤ 1000) (hs : SqT K H sa (strV shuts)) (hb : SqT K H ba (strV bars))
    (q : ∀ H', Same H H' → D.rt (oV (if (frameOf rs (some n)).isSome && decide (frameOf rs (some n) ≠ some above) then some ("lost" : Str) else if ((near rs ns).any fun y => decide (y ∈ shuts)) then some ("shut" : Str) else if ((near rs ns).any fun y => decide (y ∈ bars)) then some ("barred" : Str) else none)) H') :
    fltL K D [some v, some (.ref na), a2, a3, some (.str above), a5, some (.str n), a7, a8, some (.ref sa), some (.ref ba), a11, a12] H := by
  unfold fltL
  walk_at "step"
  obtain ⟨ba', xs, rfl, hq, hd⟩ := id hR
  have hxl : xs.length = rs.length := by have := hd.length; simpa using this
  let Pv3 : Nat → List V → Hp → Prop := fun i ys H' => H' = H ∧ ys = strV (((rs.take i).filter fun r => decide (r.host = n)).map (·.name))
  refine any_compS (H0 := H) hq (fun _ _ e => e) Pv3 ⟨rfl, rfl⟩ ?_ (fun i ys H' p => p.1 ▸ fun _ _ e => e) ?_ ?_
  · rintro i ys H' hi ⟨rfl, rfl⟩
    rw [strV_len, List.length_map]
    exact sl64 (Nat.le_trans (List.length_filter_le _ _) (by rw [List.length_take]; omega))
  · rintro i x ys H' hx ⟨rfl, rfl⟩
    obtain ⟨d, hd1, hd2⟩ := hd.get' hx
    rw [List.getElem?_map] at hd1
    obtain ⟨r, hr, rfl⟩ := Option.map_eq_some_iff.mp hd1
    obtain ⟨b, sv, bv, rfl, hb', hsv, hbv⟩ := row_parts hd2
    have etk : rs.take (i + 1) = rs.take i ++ [r] := by rw [List.take_add_one, hr]; rfl
    walk_at "step"
    refine v_ixT hb' (v := .str r.host) (atI_nat (j := 2) rfl) ?_
    walk_at "step"
    by_cases h : r.host = n
    · rw [decide_eq_true h]; refine iteT ?_
      walk_at "step"
      refine v_ixT hb' (v := .str r.name) (atI_nat (j := 0) rfl) ?_
      refine ⟨rfl, ?_⟩
      rw [etk, List.filter_append, List.map_append, strV_app]
      simp [h]
    · rw [decide_eq_false h]; refine iteF ?_
      refine ⟨rfl, ?_⟩
      rw [etk, List.filter_append]
      simp [h]
  · rintro ys H' ⟨rfl, rfl⟩ r hr
    rw [hxl, List.take_length]
    have hf := frame_L B hn
    have hu := B.un n hn
    generalize hL : (rs.filter fun r => decide (r.host = n)).map (·.name) = L at *
    have hLl : L.length ≤ 1 := by rw [← hL, List.length_map]; exact hu
    have s1 := Same.new hr (.lst (strV L))
    walk_at "step"
    refine ⟨sl64 (by simp), fun e he => ?_⟩
    have s2 := Same.new he (.lst [])
    have hrL := s2 _ _ (upd_same (H := H') (a := r) (o := .lst (strV L)))
    have he2 : (upd (upd H' r (.lst (strV L))) e (.lst [])) e = some (.lst []) := upd_same
    generalize upd (upd H' r (.lst (strV L))) e (.lst []) = H2 at *
    have s12 := Same.tr s1 s2
    refine v_neE (ds := sDa L) (dv_list.mpr ⟨r, _, rfl, SqL.of hrL, dvs_sDa.mpr rfl⟩) he2 ?_
    rw [isE_sDa]
    walk_at "step"
    match L, hLl, hf, hrL with
    | [], _, hf, hrL =>
      refine iteF ?_
      refine iteF ?_
      walk_at "step"
      refine flt_N (hR.same s12) (s12.sqT hna) hl (s12.sqT hs) (s12.sqT hb) fun H3 s3 => ?_
      have := q H3 (Same.tr s12 s3)
      rw [hf] at this
      exact this
    | [x], _, hf, hrL =>
      refine iteT ?_
      walk_at "step"
      refine ⟨sl64 (by simp), fun e2 he2 => ?_⟩
      have s3 := Same.new he2 (.lst [.str above])
      refine v_neD (d := .list (sDa [x])) (e := .list (sDa [above])) (dv_list.mpr ⟨r, _, rfl, SqL.of (s3 _ _ hrL), dvs_sDa.mpr rfl⟩) (dv_list.mpr ⟨e2, _, rfl, SqL.of upd_same, dvs_sDa.mpr rfl⟩) (by simp [sDa, PyData.depth, PyData.depthAll]) ?_
      have ee : PyData.eqv (.list (sDa [x])) (.list (sDa [above])) = decide (x = above) := by
        by_cases hx : x = above
        · subst hx; simp [sDa, PyData.eqv, PyData.eqvAll]
        · simp [sDa, PyData.eqv, PyData.eqvAll, hx]
      rw [ee]
      have s13 := Same.tr s12 s3
      generalize upd H2 e2 (.lst [.str above]) = H3 at *
      walk_at "step"
      by_cases hx : x = above
      · rw [decide_eq_true hx]; refine iteF ?_
        walk_at "step"
        refine flt_N (hR.same s13) (s13.sqT hna) hl (s13.sqT hs) (s13.sqT hb) fun H4 s4 => ?_
        have := q H4 (Same.tr s13 s4)
        rw [hf, if_neg (by simp [hx])] at this
        exact this
      · rw [decide_eq_false hx]; refine iteT ?_
        walk_at "step"
        have := q H3 s13
        rw [hf, if_pos (by simp [hx])] at this
        exact this
    | _ :: _ :: _, h, _, _ => simp at h
end
theorem tree_L {rs : List Row} {n : Str} {r : Row} {ns : List Str} {m : Nat} (hr : rowOf rs (some n) = some r) : treeF rs ns n m = if r.sort = ("bare" : Str) ∧ 0 < m then some ("full" : Str) else if 19 < ns.length then some ("deep" : Str) else if (rowL rs (lastOf ns)).sort = ("frame" : Str) ∧ (rowL rs (lastOf ns)).host ≠ n then some ("guest" : Str)
    else if (frameOf rs (some n)).isSome && decide (frameOf rs (some n) ≠ some (lastOf ns)) then some ("lost" : Str) else if ((near rs ns).any fun y => decide (y ∈ r.shuts)) then some ("shut" : Str) else if ((near rs ns).any fun y => decide (y ∈ r.bars)) then some ("barred" : Str) else none := by
  unfold treeF
  rw [show sortOf rs (some n) = some r.sort by unfold sortOf; rw [hr]; rfl]
  show (if r.sort = ("bare" : Str) ∧ 0 < m then some ("full" : Str) else if 19 < ns.length then some ("deep" : Str) else match frameF rs ns n with | some f => some f | none => nearF rs ns n) = _
  have en : nearF rs ns n = if ((near rs ns).any fun y => decide (y ∈ r.shuts)) then some ("shut" : Str) else if ((near rs ns).any fun y => decide (y ∈ r.bars)) then some ("barred" : Str) else none := by
    unfold nearF; rw [hr]
  by_cases h1 : r.sort = ("bare" : Str) ∧ 0 < m
  · rw [if_pos h1, if_pos h1]
  · rw [if_neg h1, if_neg h1]
    by_cases h2 : 19 < ns.length
    · rw [if_pos h2, if_pos h2]
    · rw [if_neg h2, if_neg h2, en]
      unfold frameF
      rw [host_L]
      by_cases h3 : (rowL rs (lastOf ns)).sort = ("frame" : Str) ∧ (rowL rs (lastOf ns)).host ≠ n
      · rw [if_pos h3, if_pos (by rw [if_pos h3.1]; simp [h3.2])]
      · rw [if_neg h3]
        have h4 : ¬ ((if (rowL rs (lastOf ns)).sort = ("frame" : Str) then some (rowL rs (lastOf ns)).host else none).isSome && decide ((if (rowL rs (lastOf ns)).sort = ("frame" : Str) then some (rowL rs (lastOf ns)).host else none) ≠ some n)) = true := by
          by_cases h5 : (rowL rs (lastOf ns)).sort = ("frame" : Str)
          · rw [if_pos h5]
            have : (rowL rs (lastOf ns)).host = n := Classical.byContradiction fun z => h3 ⟨h5, z⟩
            simp [this]
          · rw [if_neg h5]; simp
        rw [if_neg h4]
        by_cases h6 : ((frameOf rs (some n)).isSome && decide (frameOf rs (some n) ≠ some (lastOf ns))) = true
        · rw [if_pos h6, if_pos h6]
        · rw [if_neg h6, if_neg h6]
section
variable {D : Ends} {v pv av fv : V} {na : Addr} {rs : List Row} {ns : List Str} {a3 a6 a7 a8 a9 a10 a11 a12 : Option V}
theorem flt_T {n : Str} {ps : List Tr} (B : BkS rs) (hR : Rws K H v rs) (hrl : rs.length ≤ 1000) (hna : SqT K H na (strV ns)) (hl : ns.length ≤ 1000) (hpv : Dv K H (Tr.nd n ps).da pv) (hfv : Dv K H (rowL rs (lastOf ns)).da fv)
    (q : ∀ H', Same H H' → D.rt (oV (treeF rs ns n ps.length)) H') : fltT K D [some v, some (.ref na), some pv, a3, some (.str (lastOf ns)), some fv, a6, a7, a8, a9, a10, a11, a12] H := by
  unfold fltT
  obtain ⟨pa, pb, us, rfl, hpa, hpb, dvs⟩ := tr_parts hpv
  have hul := das_len dvs
  walk_at "step"
  refine v_ixT hpa (v := .str n) (atI_nat (j := 0) rfl) ?_
  walk_at "step"
  refine ⟨v, n, rs, rfl, hR, fun u H1 s1 du => ?_⟩
  obtain ⟨rb, sv, bv, rfl, hrb, hsv, hbv⟩ := row_parts du
  obtain ⟨sa, rfl, hsa⟩ := tup_str hsv
  obtain ⟨ba, rfl, hba⟩ := tup_str hbv
  refine ⟨rb, _, rfl, hrb, rfl, _, _, rfl, st_name ⟨_, _, rfl, st_name ⟨_, _, rfl, st_name ⟨_, _, rfl, st_name ⟨_, _, rfl, st_name ⟨rfl, ?_⟩⟩⟩⟩⟩⟩
  walk_at "step"
  by_cases h0 : (rowL rs n).sort = ("" : Str)
  · rw [decide_eq_true h0]; refine iteT ?_
    walk_at "step"
    have := q H1 s1
    unfold treeF at this
    rw [sort_L B, if_pos h0] at this
    exact this
  · rw [decide_eq_false h0]; refine iteF ?_
    obtain ⟨r, hr⟩ : ∃ r, rowOf rs (some n) = some r := by
      cases e : rowOf rs (some n) with
      | some r => exact ⟨r, rfl⟩
      | none => exact absurd (by unfold rowL; rw [e]; rfl) h0
    have eR : rowL rs n = r := by unfold rowL; rw [hr]; rfl
    rw [eR] at hsa hba ⊢
    obtain ⟨hm, hrn⟩ := row_some hr
    have hn0 : n ≠ ("" : Str) := hrn ▸ B.ne r hm
    rw [hrn]
    rw [tree_L hr] at q
    have last : ∀ {a11 a12 : Option V} {a7 a8 : Option V}, ¬ (r.sort = ("bare" : Str) ∧ 0 < ps.length) → ¬ (19 < ns.length) → ¬ ((rowL rs (lastOf ns)).sort = ("frame" : Str) ∧ (rowL rs (lastOf ns)).host ≠ n) → fltL K D [some v, some (.ref na), some (.ref pa), a3, some (.str (lastOf ns)), some fv, some (.str n), a7, a8, some (.ref sa), some (.ref ba), a11, a12] H1 := by
      intro _ _ _ _ h1 h2 h3
      rw [if_neg h1, if_neg h2, if_neg h3] at q
      exact flt_L B hn0 (hR.same s1) hrl (s1.sqT hna) hl hsa hba fun H2 s2 => q H2 (Same.tr s1 s2)
    obtain ⟨fb, fsv, fbv, rfl, hfb, _, _⟩ := row_parts hfv
    have hfb := s1.sqT hfb
    have tail : ¬ (r.sort = ("bare" : Str) ∧ 0 < ps.length) → fltD K D [some v, some (.ref na), some (.ref pa), a3, some (.str (lastOf ns)), some (.ref fb), some (.str n), some (.str r.sort), some (.str r.host), some (.ref sa), some (.ref ba), a11, a12] H1 := by
      intro h1
      unfold fltD
      walk_at "step"
      refine v_lenQ (.inr (s1.sqT hna)) ?_
      rw [strV_len]
      walk_at "step"
      by_cases h2 : 19 < ns.length
      · rw [decide_eq_true (by omega)]; refine iteT ?_
        walk_at "step"
        have := q H1 s1
        rw [if_neg h1, if_pos h2] at this
        exact this
      · rw [decide_eq_false (by omega)]; refine iteF ?_
        walk_at "step"
        refine v_ixT hfb (v := .str (rowL rs (lastOf ns)).sort) (atI_nat (j := 1) rfl) ?_
        walk_at "step"
        by_cases h3 : (rowL rs (lastOf ns)).sort = ("frame" : Str)
        · rw [decide_eq_true h3]; refine iteT ?_
          walk_at "step"
          refine v_ixT hfb (v := .str (rowL rs (lastOf ns)).host) (atI_nat (j := 2) rfl) ?_
          walk_at "step"
          by_cases h4 : (rowL rs (lastOf ns)).host = n
          · rw [decide_eq_true h4]; refine iteF ?_
            walk_at "step"
            exact last h1 h2 (fun z => z.2 h4)
          · rw [decide_eq_false h4]; refine iteT ?_
            walk_at "step"
            have := q H1 s1
            rw [if_neg h1, if_neg h2, if_pos ⟨h3, h4⟩] at this
            exact this
        · rw [decide_eq_false h3]; refine iteF ?_
          refine iteF ?_
          walk_at "step"
          exact last h1 h2 (fun z => h3 z.1)
    walk_at "step"
    by_cases hb0 : r.sort = ("bare" : Str)
    · rw [decide_eq_true hb0]; refine iteT ?_
      walk_at "step"
      refine v_ixT (s1.sqT hpa) (v := .ref pb) (atI_nat (j := 1) rfl) ?_
      walk_at "step"
      refine v_lenQ (.inr (s1.sqT hpb)) ?_
      rw [hul]
      walk_at "step"
      by_cases hp0 : 0 < ps.length
      · rw [decide_eq_true (by omega)]; refine iteT ?_
        walk_at "step"
        have := q H1 s1
        rw [if_pos ⟨hb0, hp0⟩] at this
        exact this
      · rw [decide_eq_false (by omega)]; refine iteF ?_
        walk_at "step"
        exact tail (fun z => hp0 z.2)
    · rw [decide_eq_false hb0]; refine iteF ?_
      refine iteF ?_
      walk_at "step"
      exact tail (fun z => hb0 z.1)
def Ahd (K : PySem.W.Frag) (H : Hp) (av : V) (bs : Bool) : Prop := (av = .non ∧ bs = false) ∨ ∃ w : Tr, Dv K H w.da av ∧ w.isTx = bs
theorem isi_ahd {Q : VK} {bs : Bool} (h : Ahd K H av bs) (q : Q (.bl bs) H) : rIsi K [av, .ty "str"] H Q := by
  rcases h with ⟨rfl, rfl⟩ | ⟨w, hw, rfl⟩
  · exact v_isi .non (b := false) rfl q
  · exact isi_tr hw q
theorem Ahd.same {H' : Hp} {bs : Bool} (h : Ahd K H av bs) (s : Same H H') : Ahd K H' av bs := h.imp (fun h => h) fun ⟨w, h1, h2⟩ => ⟨w, Dv.same s _ _ h1, h2⟩
theorem flt_A {u : Tr} {bs : Bool} {a5 : Option V} (B : BkS rs) (hR : Rws K H v rs) (hrl : rs.length ≤ 1000) (hna : SqT K H na (strV ns)) (hl : ns.length ≤ 1000) (hpv : Dv K H u.da pv) (hav : Ahd K H av bs)
    (q : ∀ H', Same H H' → D.rt (oV (faultF rs ns u bs)) H') : fltA K D [some v, some (.ref na), some pv, some av, some (.str (lastOf ns)), a5, a6, a7, a8, a9, a10, a11, a12] H := by
  unfold fltA
  walk_at "step"
  refine ⟨v, lastOf ns, rs, rfl, hR, fun fv H1 s1 hfv => ?_⟩
  walk_at "step"
  refine isi_tr (Dv.same s1 _ _ hpv) ?_
  walk_at "step"
  cases u with
  | nd n ps =>
    refine iteF ?_
    walk_at "step"
    exact flt_T B (hR.same s1) hrl (s1.sqT hna) hl (Dv.same s1 _ _ hpv) hfv fun H2 s2 => q H2 (Same.tr s1 s2)
  | tx z =>
    refine iteT ?_
    obtain ⟨fb, fsv, fbv, rfl, hfb, _, _⟩ := row_parts hfv
    have hz := tr_tx hpv
    subst hz
    have q1 : D.rt (oV (textF rs ns z bs)) H1 := q H1 s1
    unfold textF at q1
    rw [host_L] at q1
    walk_at "step"
    refine v_ixT hfb (v := .str (rowL rs (lastOf ns)).sort) (atI_nat (j := 1) rfl) ?_
    walk_at "step"
    by_cases h3 : (rowL rs (lastOf ns)).sort = ("frame" : Str)
    · rw [decide_eq_true h3]; refine iteT ?_
      walk_at "step"
      rw [if_pos h3, if_pos (by rfl)] at q1
      exact q1
    · rw [decide_eq_false h3]; refine iteF ?_
      rw [if_neg h3, if_neg (by decide)] at q1
      walk_at "step"
      by_cases hz : z = ("" : Str)
      · rw [decide_eq_true hz]; refine iteT ?_
        walk_at "step"
        rw [if_pos hz] at q1
        exact q1
      · rw [decide_eq_false hz]; refine iteF ?_
        rw [if_neg hz] at q1
        walk_at "step"
        refine isi_ahd (hav.same s1) ?_
        walk_at "step"
        cases bs with
        | true =>
          refine iteT ?_
          walk_at "step"
          exact q1
        | false =>
          refine iteF ?_
          walk_at "step"
          exact q1
end
@[reducible] def T__law_fault_15 (K : PySem.W.Frag) : TS :=
 (tSeq (tIfS (tTest (tOp (rNeA K) (tVar 1) (tTup tNil)))
 (tAsg (tOp (rIxA K) (tVar 1) (tUn (rU fun i => .int (-i)) (tC (.int 1)))) (gName 4)) tNext)
 (fltA K))
def sp__law_fault (K : PySem.W.Frag) : Sp := fun vs H Q _ => ∃ (v : V) (na : Addr) (pv av : V) (rs : List Row) (ns : List Str) (u : Tr) (bs : Bool), vs = [v, .ref na, pv, av] ∧ BkS rs ∧ Rws K H v rs ∧ rs.length ≤ 1000 ∧ SqT K H na (strV ns) ∧ ns.length ≤ 1000 ∧ Dv K H u.da pv ∧ Ahd K H av bs ∧ ∀ H', Same H H' → Q (oV (faultF rs ns u bs)) H'
theorem len__law_fault (K : PySem.W.Frag) : ∀ vs H Q E, sp__law_fault K vs H Q E → vs.length = ["_law_book_here", "_law_names", "_law_part", "_law_ahead"].length := by rintro vs H Q E ⟨v, na, pv, av, rs, ns, u, bs, rfl, _⟩; rfl
def R__law_fault (K : PySem.W.Frag) : TS :=
 (tSeq (tAsg (tC (.str ("" : Str))) (gName 4))
 (T__law_fault_15 K))
theorem rd__law_fault (h : sp__law_fault K vs H Q E) : R__law_fault K { nx := fun _ H' => Q .non H', rt := Q } (start ["_law_book_here", "_law_names", "_law_part", "_law_ahead", "_law_above", "_law_frame", "_law_name_here", "_law_sort", "_law_host", "_law_shuts", "_law_bars", "_law_frames", "_law_near_here"] vs) H := by
  obtain ⟨v, na, pv, av, rs, ns, u, bs, rfl, B, hR, hrl, hna, hl, hpv, hav, q⟩ := h
  show R__law_fault K _ [some v, some (.ref na), some pv, some av, none, none, none, none, none, none, none, none, none] H
  unfold R__law_fault
  walk_at "step"
  refine ⟨sl64 (by simp), fun e he => ?_⟩
  have s1 : Same H (upd H e (.tup [])) := Same.new he _
  refine v_neM (d := .tuple (sDa ns)) (e := .tuple []) (dv_tuple.mpr ⟨na, _, rfl, s1.sqT hna, dvs_sDa.mpr rfl⟩) (dv_tuple.mpr ⟨e, [], rfl, SqT.of upd_same, dvs_nil⟩) (Nat.le_trans (Nat.min_le_right _ _) (by decide)) ?_
  rw [eqv_strsT]
  generalize upd H e (.tup []) = H1 at *
  walk_at "step"
  by_cases hn : ns = []
  · subst hn
    refine iteF ?_
    walk_at "step"
    exact flt_A (ns := []) B (hR.same s1) hrl (s1.sqT hna) hl (Dv.same s1 _ _ hpv) (hav.same s1) fun H2 s2 => q H2 (Same.tr s1 s2)
  · have e0 : (!ns.isEmpty) = true := by cases ns with | nil => exact absurd rfl hn | cons _ _ => rfl
    rw [e0]
    refine iteT ?_
    walk_at "step"
    refine ⟨1, rfl, ?_⟩
    obtain ⟨xs, x, rfl⟩ : ∃ xs x, ns = xs ++ [x] := ⟨ns.dropLast, ns.getLast hn, (List.dropLast_concat_getLast hn).symm⟩
    refine v_ixT (s1.sqT hna) (v := .str x) (atI_last (n := xs.length) (by rw [strV_len]; simp) (by rw [strV_at (by simp)]; simp)) ?_
    walk_at "step"
    have := lastOf_snoc xs x
    rw [← this]
    exact flt_A B (hR.same s1) hrl (s1.sqT hna) hl (Dv.same s1 _ _ hpv) (hav.same s1) fun H2 s2 => q H2 (Same.tr s1 s2)
end My
namespace My
open PySem L2
variable {K : PySem.W.Frag} {vs : List V} {H : Hp} {Q : VK} {E : XK}
abbrev T3 := List Int × List Str × Tr
def abv (x : T3) : List Str := if x.1 = [] then x.2.1 else x.2.1 ++ [nmOf x.2.2]
def kid3 (pl : List Int) (ab : List Str) : Nat → List Tr → List T3
  | _, [] => []
  | k, t :: ts => (pl ++ [(k : Int)], ab, t) :: kid3 pl ab (k + 1) ts
mutual
def wkT (pl : List Int) (ns ab : List Str) : Tr → List T3
  | .tx s => [(pl, ns, .tx s)]
  | .nd n ps => (pl, ns, .nd n ps) :: wkS pl ab 0 ps
def wkS (pl : List Int) (ab : List Str) (k : Nat) : List Tr → List T3
  | [] => []
  | t :: ts => wkT (pl ++ [(k : Int)]) ab (ab ++ [nmOf t]) t ++ wkS pl ab (k + 1) ts
end
def wk (x : T3) : List T3 := wkT x.1 x.2.1 (abv x) x.2.2
def flat3 (l : List T3) : List T3 := l.flatMap wk
theorem flat3_app (a b : List T3) : flat3 (a ++ b) = flat3 a ++ flat3 b := by unfold flat3; rw [List.flatMap_append]
theorem snoc_ne {α : Type} (l : List α) (x : α) : l ++ [x] ≠ [] := by simp
theorem wkS_flat (pl : List Int) (ab : List Str) : ∀ (k : Nat) (ts : List Tr), wkS pl ab k ts = flat3 (kid3 pl ab k ts)
  | k, [] => by rw [wkS]; rfl
  | k, t :: ts => by
    rw [wkS, wkS_flat pl ab (k + 1) ts, kid3]
    show _ = wk (pl ++ [(k : Int)], ab, t) ++ flat3 (kid3 pl ab (k + 1) ts)
    unfold wk abv
    rw [if_neg (snoc_ne _ _)]
theorem wk_kids (x : T3) : wk x = x :: flat3 (kid3 x.1 (abv x) 0 x.2.2.kids) := by
  obtain ⟨pl, ns, t⟩ := x
  cases t with
  | tx s => unfold wk; rw [wkT]; rfl
  | nd n ps => unfold wk; rw [wkT, wkS_flat]; rfl
theorem flat3_cons (x : T3) (r : List T3) : flat3 (x :: r) = x :: flat3 (kid3 x.1 (abv x) 0 x.2.2.kids ++ r) := by
  rw [flat3_app]
  show wk x ++ flat3 r = _
  rw [wk_kids]; rfl
theorem kid3_len (pl : List Int) (ab : List Str) : ∀ (k : Nat) (ts : List Tr), (kid3 pl ab k ts).length = ts.length
  | _, [] => rfl
  | k, t :: ts => by rw [kid3, List.length_cons, List.length_cons, kid3_len pl ab (k + 1) ts]
mutual
theorem wkT_wt (pl : List Int) (ns ab : List Str) : ∀ t : Tr, (wkT pl ns ab t).length ≤ wt t
  | .tx s => by rw [wkT, wt, List.length_singleton]; omega
  | .nd n ps => by rw [wkT, wt, List.length_cons]; have := wkS_wt pl ab 0 ps; omega
theorem wkS_wt (pl : List Int) (ab : List Str) (k : Nat) : ∀ ts : List Tr, (wkS pl ab k ts).length ≤ wts ts
  | [] => by rw [wkS, wts]; exact Nat.le_refl _
  | t :: ts => by rw [wkS, wts, List.length_append]; have := wkT_wt (pl ++ [(k : Int)]) ab (ab ++ [nmOf t]) t; have := wkS_wt pl ab (k + 1) ts; omega
end
mutual
theorem wkT_len (pl : List Int) (ns ab : List Str) (h : ns.length ≤ ab.length) : ∀ (t : Tr) (x : T3), x ∈ wkT pl ns ab t → x.1.length + 1 ≤ pl.length + wt t ∧ x.2.1.length + 1 ≤ ab.length + wt t
  | .tx s, x, hx => by rw [wkT, List.mem_singleton] at hx; subst hx; rw [wt]; show pl.length + 1 ≤ _ ∧ ns.length + 1 ≤ _; omega
  | .nd n ps, x, hx => by
    rw [wkT, List.mem_cons] at hx
    rw [wt]
    rcases hx with rfl | hx
    · show pl.length + 1 ≤ _ ∧ ns.length + 1 ≤ _; omega
    · have := wkS_len pl ab 0 ps x hx; omega
theorem wkS_len (pl : List Int) (ab : List Str) (k : Nat) : ∀ (ts : List Tr) (x : T3), x ∈ wkS pl ab k ts → x.1.length ≤ pl.length + wts ts ∧ x.2.1.length ≤ ab.length + wts ts
  | [], x, hx => by rw [wkS] at hx; cases hx
  | t :: ts, x, hx => by
    rw [wkS, List.mem_append] at hx
    rw [wts]
    rcases hx with hx | hx
    · have := wkT_len _ _ _ (by simp) t x hx; simp at this; omega
    · have := wkS_len pl ab (k + 1) ts x hx; omega
end
mutual
theorem wkT_h (pl : List Int) (ns ab : List Str) (h : ns.length ≤ ab.length) : ∀ (t : Tr) (x : T3), x ∈ wkT pl ns ab t → x.1.length ≤ pl.length + hgt t ∧ x.2.1.length ≤ ab.length + hgt t
  | .tx s, x, hx => by rw [wkT, List.mem_singleton] at hx; subst hx; show pl.length ≤ _ ∧ ns.length ≤ _; omega
  | .nd n ps, x, hx => by
    rw [wkT, List.mem_cons] at hx
    rw [hgt]
    rcases hx with rfl | hx
    · show pl.length ≤ _ ∧ ns.length ≤ _; omega
    · have := wkS_h pl ab 0 ps x hx; omega
theorem wkS_h (pl : List Int) (ab : List Str) (k : Nat) : ∀ (ts : List Tr) (x : T3), x ∈ wkS pl ab k ts → x.1.length ≤ pl.length + 1 + hgts ts ∧ x.2.1.length ≤ ab.length + 1 + hgts ts
  | [], x, hx => by rw [wkS] at hx; cases hx
  | t :: ts, x, hx => by
    rw [wkS, List.mem_append] at hx
    rw [hgts]
    rcases hx with hx | hx
    · have := wkT_h _ _ _ (by simp) t x hx; simp at this; omega
    · have := wkS_h pl ab (k + 1) ts x hx; omega
end
def W3 (K : PySem.W.Frag) (H : Hp) (x : T3) (v : V) : Prop := ∃ (a pa na : Addr) (pv : V), v = .ref a ∧ H a = some (.tup [.ref pa, .ref na, pv]) ∧ H pa = some (.tup (intV x.1)) ∧ H na = some (.tup (strV x.2.1)) ∧ Dv K H x.2.2.da pv
def W3s (K : PySem.W.Frag) (H : Hp) : List T3 → List V → Prop
  | [], vs => vs = []
  | x :: xs, vs => ∃ v r, vs = v :: r ∧ W3 K H x v ∧ W3s K H xs r
theorem W3.tupK {H' : Hp} {x : T3} {v : V} (k : TupK H H') (h : W3 K H x v) : W3 K H' x v := by
  obtain ⟨a, pa, na, pv, rfl, h1, h2, h3, h4⟩ := h
  exact ⟨a, pa, na, pv, rfl, k.1 _ _ h1, k.1 _ _ h2, k.1 _ _ h3, Dv.tupK k _ _ (da_fix _) h4⟩
theorem W3s.tupK {H' : Hp} (k : TupK H H') : ∀ {xs : List T3} {vs : List V}, W3s K H xs vs → W3s K H' xs vs
  | [], _, h => h
  | x :: xs, _, ⟨v, r, e, h1, h2⟩ => ⟨v, r, e, h1.tupK k, W3s.tupK k h2⟩
theorem W3s.app : ∀ {xs ys : List T3} {vs ws : List V}, W3s K H xs vs → W3s K H ys ws → W3s K H (xs ++ ys) (vs ++ ws)
  | [], _, _, _, h, g => by rw [show _ = [] from h]; exact g
  | x :: xs, _, _, _, ⟨v, r, e, h1, h2⟩, g => by subst e; exact ⟨v, _, rfl, h1, W3s.app h2 g⟩
theorem W3s.length : ∀ {xs : List T3} {vs : List V}, W3s K H xs vs → vs.length = xs.length
  | [], _, h => by rw [show _ = [] from h]; rfl
  | x :: xs, _, ⟨v, r, e, h1, h2⟩ => by subst e; rw [List.length_cons, List.length_cons, W3s.length h2]
theorem W3s.get : ∀ {xs : List T3} {vs : List V} {i : Nat} {v : V}, W3s K H xs vs → vs[i]? = some v → ∃ x, xs[i]? = some x ∧ W3 K H x v
  | [], _, i, v, h, e => by rw [show _ = [] from h] at e; simp at e
  | x :: xs, _, 0, v, ⟨w, r, e, h1, h2⟩, e2 => by subst e; cases e2; exact ⟨x, rfl, h1⟩
  | x :: xs, _, i + 1, v, ⟨w, r, e, h1, h2⟩, e2 => by
    subst e
    obtain ⟨y, hy, w3⟩ := W3s.get (i := i) h2 (by simpa using e2)
    exact ⟨y, by simpa using hy, w3⟩
theorem W3s.one {x : T3} {v : V} (h : W3 K H x v) : W3s K H [x] [v] := ⟨v, [], rfl, h, rfl⟩
def d3 (x : T3) : PyData := .tuple [.tuple (intD x.1), .tuple (sDa x.2.1), x.2.2.da]
theorem W3.dv {x : T3} {v : V} (h : W3 K H x v) : Dv K H (d3 x) v := by
  obtain ⟨a, pa, na, pv, rfl, h1, h2, h3, h4⟩ := h
  unfold d3
  exact dv_tuple.mpr ⟨a, _, rfl, SqT.of h1, dvs_cons (dv_tuple.mpr ⟨pa, _, rfl, SqT.of h2, dvs_intD.mpr rfl⟩) (dvs_cons (dv_tuple.mpr ⟨na, _, rfl, SqT.of h3, dvs_sDa.mpr rfl⟩) (dvs_cons h4 dvs_nil))⟩
theorem W3s.dvs : ∀ {xs : List T3} {vs : List V}, W3s K H xs vs → Dvs K H (xs.map d3) vs
  | [], _, h => by rw [show _ = [] from h]; exact dvs_nil
  | x :: xs, _, ⟨v, r, e, h1, h2⟩ => by subst e; exact dvs_cons h1.dv h2.dvs
def walkC (K : PySem.W.Frag) : TS :=
 (tAsg (tOp (rAddB K) (tComp [some 6, some 3, some 5, none] (iRng1 (tCons (tCB (rLenA K) (tCons (tOp (rIxA K) (tVar 5) (tC (.int 1))) tNil)) tNil)) (gName 3) tTT (tTup (tCons (tOp (rAddB K) (tVar 1) (tTup (tCons (tVar 3) tNil))) (tCons (tVar 0) (tCons (tOp (rIxA K) (tOp (rIxA K) (tVar 2) (tC (.int 1))) (tVar 3)) tNil))))) (tVar 2)) (gName 2))
section
variable {D : Ends} {v pv : V} {p1 p2 pa na ab : Addr}
theorem walk_C {x : T3} {n : Str} {ps : List Tr} {ws : List V} {stk : List T3} (hx : x.2.2 = .nd n ps) (hp2 : H p2 = some (.lst ws)) (hpa : H pa = some (.tup (intV x.1))) (hab : H ab = some (.tup (strV (abv x)))) (hpv : Dv K H x.2.2.da pv) (hstk : W3s K H stk ws) (hz : x.1.length + ps.length + ws.length ≤ 90000)
    (q : ∀ (r : Addr) (us : List V) (H' : Hp), Same H H' → H r = none → H' r = some (.lst us) → W3s K H' (kid3 x.1 (abv x) 0 ps ++ stk) us → D.nx [some v, some (.ref p1), some (.ref r), some (.ref pa), some (.ref na), some pv, some (.ref ab)] H') :
    walkC K D [some v, some (.ref p1), some (.ref p2), some (.ref pa), some (.ref na), some pv, some (.ref ab)] H := by
  rw [hx] at hpv
  obtain ⟨ta, tb, us, rfl, hta, htb, hd⟩ := tr_parts hpv
  have hul := das_len hd
  unfold walkC
  walk_at "step"
  refine v_ixT hta (v := .ref tb) (atI_nat (j := 1) rfl) ?_
  walk_at "step"
  refine v_lenQ (.inr htb) ?_
  rw [hul]
  let Pv0 : Nat → List V → Hp → Prop := fun i ys H' => Same H H' ∧ W3s K H' (kid3 x.1 (abv x) 0 (ps.take i)) ys
  refine rng1_comp (n := (ps.length : Int)) (by omega) (by omega) Pv0 ⟨fun _ _ e => e, rfl⟩ ?_ ?_ ?_
  · rintro i ys H' hi ⟨s1, h⟩
    rw [h.length, kid3_len, List.length_take]; exact sl64 (by omega)
  · rintro i ys H' hi ⟨s1, h⟩
    have hi : i < ps.length := by omega
    obtain ⟨u, hu, du⟩ := das_get hd (List.getElem?_eq_getElem hi)
    walk_at "step"
    refine ⟨sl64 (by simp), fun c hc => ?_⟩
    have sc := Same.new hc (.tup [.int (i : Int)])
    refine v_catH (sc _ _ (s1 _ _ hpa)) upd_same (by rw [intV_len]; exact sl64 (by simp; omega)) fun pp H2 s2 hpp => ?_
    have s12 : Same H' H2 := Same.tr sc s2
    have s02 := Same.tr s1 s12
    walk_at "step"
    refine v_ixT (s02.sqT hta) (v := .ref tb) (atI_nat (j := 1) rfl) ?_
    walk_at "step"
    refine v_ixT (s02.sqT htb) (v := u) (atI_nat hu) ?_
    walk_at "step"
    refine ⟨sl64 (by simp), fun t ht => ?_⟩
    have s3 := Same.new ht (.tup [.ref pp, .ref ab, u])
    refine ⟨Same.tr s02 s3, ?_⟩
    have e : kid3 x.1 (abv x) 0 (ps.take (i + 1)) = kid3 x.1 (abv x) 0 (ps.take i) ++ [(x.1 ++ [((i : Nat) : Int)], abv x, ps[i])] := by
      rw [List.take_add_one, List.getElem?_eq_getElem hi]
      have : ∀ (k : Nat) (l : List Tr) (y : Tr), kid3 x.1 (abv x) k (l ++ [y]) = kid3 x.1 (abv x) k l ++ [(x.1 ++ [((k + l.length : Nat) : Int)], abv x, y)] := by
        intro k l y
        induction l generalizing k with
        | nil => simp [kid3]
        | cons z l ih => rw [List.cons_append, kid3, ih, kid3, List.cons_append, List.length_cons, show k + 1 + l.length = k + (l.length + 1) by omega]
      show kid3 _ _ _ (ps.take i ++ [ps[i]]) = _
      rw [this, List.length_take, show 0 + min i ps.length = i by omega]
    rw [e]
    refine W3s.app (h.tupK (Same.tr s12 s3).tupK) (W3s.one ⟨t, pp, ab, u, rfl, upd_same, ?_, s3 _ _ (s02 _ _ hab), Dv.same (Same.tr s02 s3) _ _ du⟩)
    have := s3 _ _ hpp
    rw [this]
    show some (HO.tup (intV x.1 ++ [V.int (i : Int)])) = _
    rw [intV_app]
  · rintro ys H' ⟨s1, h⟩ r hr
    rw [show ((ps.length : Int)).toNat = ps.length by omega, List.take_length] at h
    have sr := Same.new hr (.lst ys)
    walk_at "step"
    have h1 := h.length
    rw [kid3_len] at h1
    refine .inl (v_cat upd_same (Same.tr s1 sr _ _ hp2) (by rw [h1]; exact sl64 (by omega)) fun r2 hr2 => ?_)
    have sr2 := Same.new hr2 (.lst (ys ++ ws))
    have st := Same.tr s1 (Same.tr sr sr2)
    walk_at "step"
    exact q r2 _ _ st (none_of (Same.tr s1 sr) hr2) upd_same (W3s.app (h.tupK (Same.tr sr sr2).tupK) (hstk.tupK st.tupK))
end
@[reducible] def T__law_walk_1 (K : PySem.W.Frag) : TS :=
 (tSeq (tIfS (tTest (tOp (rNeA K) (tVar 3) (tTup tNil)))
 (tAsg (tOp (rAddB K) (tVar 4) (tTup (tCons (tOp (rIxA K) (tVar 5) (tC (.int 0))) tNil))) (gName 6)) tNext)
 (walkC K))
@[reducible] def T__law_walk_2 (K : PySem.W.Frag) : TS :=
 (tIfS (tNot (tB (tCB (rIsi K) (tCons (tVar 5) (tCons (tC (.ty "str")) tNil)))))
 (tSeq (tAsg (tVar 4) (gName 6))
 (T__law_walk_1 K)) tNext)
@[reducible] def T__law_walk_3 (K : PySem.W.Frag) : TS :=
 (tSeq (tDrop (tBM K "list" rAppend (tVar 1) (tCons (tTup (tCons (tVar 3) (tCons (tVar 4) (tCons (tVar 5) tNil)))) tNil)))
 (T__law_walk_2 K))
@[reducible] def T__law_walk_4 (K : PySem.W.Frag) : TS :=
 (tSeq (tAsg (tBM K "list" rPopAt (tVar 2) (tCons (tC (.int 0)) tNil)) (gTup K 3 (gCons (gName 3) (gCons (gName 4) (gCons (gName 5) gNil)))))
 (T__law_walk_3 K))
@[reducible] def T__law_walk_5 (K : PySem.W.Frag) : TS :=
 (tSeq (tAsg (tLst (tCons (tTup (tCons (tTup tNil) (tCons (tTup tNil) (tCons (tVar 0) tNil)))) tNil)) (gName 2))
 (tSeq (tWhile (tTest (tOp (rNeA K) (tVar 2) (tLst tNil)))
 (T__law_walk_4 K))
 (tRet (tVar 1))))
def sp__law_walk (K : PySem.W.Frag) : Sp := fun vs H Q _ => ∃ (t : Tr) (v : V), vs = [v] ∧ Dv K H t.da v ∧ wt t ≤ 40000 ∧ ∀ (p : Addr) (us : List V) (H' : Hp), Same H H' → H p = none → H' p = some (.lst us) → W3s K H' (wk ([], [], t)) us → Q (.ref p) H'
theorem len__law_walk (K : PySem.W.Frag) : ∀ vs H Q E, sp__law_walk K vs H Q E → vs.length = ["_law_tree_here"].length := by rintro vs H Q E ⟨t, v, rfl, _⟩; rfl
def R__law_walk (K : PySem.W.Frag) : TS :=
 (tSeq (tAsg (tLst tNil) (gName 1))
 (T__law_walk_5 K))
theorem rd__law_walk (h : sp__law_walk K vs H Q E) : R__law_walk K { nx := fun _ H' => Q .non H', rt := Q } (start ["_law_tree_here", "_law_found", "_law_todo", "_law_place", "_law_names", "_law_part", "_law_above"] vs) H := by
  obtain ⟨t, v, rfl, hd, hz, q⟩ := h
  show R__law_walk K _ [some v, none, none, none, none, none, none] H
  unfold R__law_walk
  have hpl : (wk ([], [], t)).length ≤ wt t := wkT_wt _ _ _ t
  walk_at "step"
  refine ⟨sl64 (by simp), fun p1 hp1 => ?_⟩
  have s1 := Same.new hp1 (.lst [])
  have e1 : (upd H p1 (.lst [])) p1 = some (.lst []) := upd_same
  generalize upd H p1 (.lst []) = H1 at *
  walk_at "step"
  refine ⟨sl64 (by simp), fun c0 hc0 => ?_⟩
  have s2 := Same.new hc0 (.tup [])
  have e2 : (upd H1 c0 (.tup [])) c0 = some (.tup []) := upd_same
  generalize upd H1 c0 (.tup []) = H2 at *
  walk_at "step"
  refine ⟨sl64 (by simp), fun c1 hc1 => ?_⟩
  have s3 := Same.new hc1 (.tup [])
  have e3 : (upd H2 c1 (.tup [])) c1 = some (.tup []) := upd_same
  generalize upd H2 c1 (.tup []) = H3 at *
  walk_at "step"
  refine ⟨sl64 (by simp), fun c2 hc2 => ?_⟩
  have s4 := Same.new hc2 (.tup [.ref c0, .ref c1, v])
  have e4 : (upd H3 c2 (.tup [.ref c0, .ref c1, v])) c2 = some (.tup [.ref c0, .ref c1, v]) := upd_same
  generalize upd H3 c2 (.tup [.ref c0, .ref c1, v]) = H4 at *
  walk_at "step"
  refine ⟨sl64 (by simp), fun p2 hp2 => ?_⟩
  have s5 := Same.new hp2 (.lst [.ref c2])
  have e5 : (upd H4 p2 (.lst [.ref c2])) p2 = some (.lst [.ref c2]) := upd_same
  have s14 : Same H1 H4 := Same.tr s2 (Same.tr s3 s4)
  have n12 : p1 ≠ p2 := ne_free (s14 _ _ e1) hp2
  have n2 : H p2 = none := none_of (Same.tr s1 s14) hp2
  generalize upd H4 p2 (.lst [.ref c2]) = H5 at *
  have s15 := Same.tr s14 s5
  have sA := Same.tr s1 s15
  walk_at "step"
  let Pv1 : St → Hp → Prop := fun σ H' => ∃ (p2 : Addr) (a3 a4 a5 a6 : Option V) (us ws : List V) (done stk : List T3), σ = [some v, some (.ref p1), some (.ref p2), a3, a4, a5, a6] ∧ Same H H' ∧ H p2 = none ∧ p1 ≠ p2 ∧ H' p1 = some (.lst us) ∧ H' p2 = some (.lst ws) ∧ W3s K H' done us ∧ W3s K H' stk ws ∧ done ++ flat3 stk = wk ([], [], t)
  refine while_raw Pv1
    (fun σ H' => match H' p1 with | some (.lst us) => (wk ([], [], t)).length - us.length | _ => 0) ⟨p2, _, _, _, _, [], [.ref c2], [], [([], [], t)], rfl, sA, n2, n12, s15 _ _ e1, e5, rfl, W3s.one ⟨c2, c0, c1, v, rfl, s5 _ _ e4, s5 _ _ (s4 _ _ (s3 _ _ e2)), s5 _ _ (s4 _ _ e3), Dv.same sA _ _ hd⟩, by simp [flat3]⟩ ?_
  clear e1 e2 e3 e4 e5 s1 s2 s3 s4 s5 s14 s15 sA n12 n2 hc0 hc1 hc2 hp2
  rintro σ H' ⟨p2, a3, a4, a5, a6, us, ws, done, stk, rfl, s1, n2, n12, h1, h2, d1, d2, e⟩
  have hel : done.length + (flat3 stk).length = (wk ([], [], t)).length := by rw [← e, List.length_append]
  have hdl := d1.length
  have hwl := d2.length
  walk_at "step"
  refine ⟨sl64 (by simp), fun e0 he0 => ?_⟩
  have s2 := Same.new he0 (.lst [])
  have h10 := h1
  have h1 := s2 _ _ h1
  have h2 := s2 _ _ h2
  have d1 := d1.tupK s2.tupK
  have d2 := d2.tupK s2.tupK
  have s1 := Same.tr s1 s2
  have he : (upd H' e0 (.lst [])) e0 = some (.lst []) := upd_same
  have hm0 : (match H' p1 with | some (.lst us) => (wk ([], [], t)).length - us.length | _ => 0) = (wk ([], [], t)).length - us.length := by rw [h10]
  generalize upd H' e0 (.lst []) = H6 at *
  refine v_neE (ds := stk.map d3) (dv_list.mpr ⟨p2, _, rfl, SqL.of h2, d2.dvs⟩) he ?_
  walk_at "step"
  cases stk with
  | nil =>
    refine iteF ?_
    walk_at "step"
    have : done = wk ([], [], t) := by simpa [flat3] using e
    rw [this] at d1
    exact q p1 us H6 s1 hp1 h1 d1
  | cons x rest =>
    refine iteT ?_
    obtain ⟨y, ws', rfl, d3', d4⟩ := d2
    rw [flat3_cons] at e hel
    rw [List.length_cons, flat3_app, List.length_append] at hel
    have hm : x ∈ wk ([], [], t) := by rw [← e]; simp
    have hxl := wkT_len [] [] (abv ([], [], t)) (by simp) t x hm
    have hab0 : (abv ([], [], t)).length = 0 := rfl
    have hfl : ∀ l : List T3, l.length ≤ (flat3 l).length := fun l => by
      induction l with
      | nil => exact Nat.zero_le _
      | cons p r ih => rw [flat3_cons, flat3_app, List.length_cons, List.length_cons, List.length_append]; omega
    have hkw := hfl (kid3 x.1 (abv x) 0 x.2.2.kids)
    rw [kid3_len] at hkw
    have hrw := hfl rest
    have hwl' := d4.length
    let Nv2 : St → Hp → Prop := fun σ' H'' => ∃ (p2 : Addr) (a3 a4 a5 a6 : Option V) (us' ws : List V) (done stk : List T3), σ' = [some v, some (.ref p1), some (.ref p2), a3, a4, a5, a6] ∧ Same H H'' ∧ H p2 = none ∧ p1 ≠ p2 ∧ H'' p1 = some (.lst us') ∧ H'' p2 = some (.lst ws) ∧ W3s K H'' done us' ∧ W3s K H'' stk ws ∧ done ++ flat3 stk = wk ([], [], t) ∧ us'.length = us.length + 1
    refine ⟨Nv2, ?_, ?_⟩
    · rintro σ' H'' ⟨p2, a3, a4, a5, a6, us', ws, done, stk, rfl, z1, z2, z3, z4, z5, z6, z7, z8, z9⟩
      refine ⟨_, ?_, rfl, p2, a3, a4, a5, a6, us', ws, done, stk, rfl, z1, z2, z3, z4, z5, z6, z7, z8⟩
      dsimp only
      rw [hm0, z4]
      dsimp only
      omega
    · obtain ⟨xa, pa, na, pv, rfl, k1, k2, k3, k4⟩ := d3'
      walk_at "step"
      refine ⟨.inl ⟨rfl, _, SqL.of h2⟩, ?_⟩
      walk_at "step"
      refine v_pop0 h2 ?_
      have tk := tupK_lst (ys := ws') h2
      have s7 : Same H (upd H6 p2 (.lst ws')) := Same.put s1 n2 _
      have g1 : (upd H6 p2 (.lst ws')) p1 = some (.lst us) := by rw [upd_ne n12]; exact h1
      have g2 : (upd H6 p2 (.lst ws')) p2 = some (.lst ws') := upd_same
      have d1 := d1.tupK tk
      have d4 := d4.tupK tk
      have k1 := tk.1 _ _ k1
      have k2 := tk.1 _ _ k2
      have k3 := tk.1 _ _ k3
      have k4 := Dv.tupK tk _ _ (da_fix _) k4
      generalize upd H6 p2 (.lst ws') = H7 at *
      refine ⟨xa, _, rfl, SqT.of k1, rfl, _, _, rfl, st_name ⟨_, _, rfl, st_name ⟨_, _, rfl, st_name ⟨rfl, ?_⟩⟩⟩⟩
      walk_at "step"
      refine ⟨.inl ⟨rfl, _, SqL.of g1⟩, ?_⟩
      walk_at "step"
      refine ⟨sl64 (by simp), fun f0 hf0 => ?_⟩
      have s8 := Same.new hf0 (.tup [.ref pa, .ref na, pv])
      have g1 := s8 _ _ g1
      have g2 := s8 _ _ g2
      have d1 := d1.tupK s8.tupK
      have d4 := d4.tupK s8.tupK
      have k2 := s8 _ _ k2
      have k3 := s8 _ _ k3
      have k4 := Dv.same s8 _ _ k4
      have kf : (upd H7 f0 (.tup [.ref pa, .ref na, pv])) f0 = some (.tup [.ref pa, .ref na, pv]) := upd_same
      have s7 := Same.tr s7 s8
      generalize upd H7 f0 (.tup [.ref pa, .ref na, pv]) = H8 at *
      walk_at "step"
      refine v_append g1 (by rw [hdl, sizeLine_eq]; omega) ?_
      have tk := tupK_lst (ys := us ++ [.ref f0]) g1
      have s9 : Same H (upd H8 p1 (.lst (us ++ [.ref f0]))) := Same.put s7 hp1 _
      have g3 : (upd H8 p1 (.lst (us ++ [.ref f0]))) p1 = some (.lst (us ++ [.ref f0])) := upd_same
      have g2 : (upd H8 p1 (.lst (us ++ [.ref f0]))) p2 = some (.lst ws') := by rw [upd_ne (Ne.symm n12)]; exact g2
      have d1 := d1.tupK tk
      have d4 := d4.tupK tk
      have k2 := tk.1 _ _ k2
      have k3 := tk.1 _ _ k3
      have k4 := Dv.tupK tk _ _ (da_fix _) k4
      have kf := tk.1 _ _ kf
      generalize upd H8 p1 (.lst (us ++ [.ref f0])) = H9 at *
      have d1 : W3s K H9 (done ++ [x]) (us ++ [.ref f0]) := W3s.app d1 (W3s.one ⟨f0, pa, na, pv, rfl, kf, k2, k3, k4⟩)
      walk_at "step"
      refine isi_tr k4 ?_
      walk_at "step"
      obtain ⟨pl, ns, u⟩ := x
      cases u with
      | tx z =>
        refine iteF ?_
        walk_at "step"
        exact ⟨p2, _, _, _, _, _, ws', done ++ [(pl, ns, .tx z)], rest, rfl, s9, n2, n12, g3, g2, d1, d4, by rw [← e]; simp [Tr.kids, kid3], by simp⟩
      | nd n ps =>
        refine iteT ?_
        walk_at "step"
        have hkw : ps.length ≤ (flat3 (kid3 pl (abv (pl, ns, .nd n ps)) 0 ps)).length := hkw
        have hel : done.length + ((flat3 (kid3 pl (abv (pl, ns, .nd n ps)) 0 ps)).length + (flat3 rest).length + 1) = (wk ([], [], t)).length := hel
        have hpl1 : pl.length + 1 ≤ wt t := by have := hxl.1; simpa using this
        have hns1 : ns.length + 1 ≤ wt t := by have := hxl.2; rw [hab0] at this; simpa using this
        have fin : ∀ (D : Ends) (ab : Addr) (H10 : Hp), Same H9 H10 → H10 ab = some (.tup (strV (abv (pl, ns, .nd n ps)))) → (∀ (p2 : Addr) (us' ws : List V) (done stk : List T3) (H'' : Hp), Same H H'' → H p2 = none → p1 ≠ p2 → H'' p1 = some (.lst us') → H'' p2 = some (.lst ws) → W3s K H'' done us' → W3s K H'' stk ws → done ++ flat3 stk = wk ([], [], t) → us'.length = us.length + 1 → D.nx [some v, some (.ref p1), some (.ref p2), some (.ref pa), some (.ref na), some pv, some (.ref ab)] H'') → walkC K D [some v, some (.ref p1), some (.ref p2), some (.ref pa), some (.ref na), some pv, some (.ref ab)] H10 := by
          intro D ab H10 s10 hab qq
          refine walk_C (x := (pl, ns, .nd n ps)) rfl (s10 _ _ g2) (s10 _ _ k2) hab (Dv.same s10 _ _ k4) (d4.tupK s10.tupK) (by show pl.length + ps.length + ws'.length ≤ 90000; omega) fun r us2 H11 s11 hr hus w3 => ?_
          have s911 := Same.tr s10 s11
          exact qq r _ us2 (done ++ [(pl, ns, .nd n ps)]) _ H11 (Same.tr s9 s911) (none_of (Same.tr s9 s10) hr) (ne_free (s10 _ _ g3) hr) (s911 _ _ g3) hus (d1.tupK s911.tupK) w3 (by rw [← e]; simp [Tr.kids]) (by simp)
        refine ⟨sl64 (by simp), fun e9 he9 => ?_⟩
        have s10 := Same.new he9 (.tup [])
        refine v_neM (d := .tuple (intD pl)) (e := .tuple []) (dv_tuple.mpr ⟨pa, _, rfl, SqT.of (s10 _ _ k2), dvs_intD.mpr rfl⟩) (dv_tuple.mpr ⟨e9, [], rfl, SqT.of upd_same, dvs_nil⟩) (Nat.le_trans (Nat.min_le_right _ _) (by decide)) ?_
        rw [eqv_unit]
        generalize upd H9 e9 (.tup []) = H10 at *
        walk_at "step"
        by_cases hpl0 : pl = []
        · have e0 : (!pl.isEmpty) = false := by rw [hpl0]; rfl
          rw [e0]
          refine iteF ?_
          walk_at "step"
          exact fin _ na H10 s10 (by rw [s10 _ _ k3]; unfold abv; rw [if_pos hpl0]) fun p2 us' ws done stk H'' h1 h2 h3 h4 h5 h6 h7 h8 h9 => ⟨p2, _, _, _, _, us', ws, done, stk, rfl, h1, h2, h3, h4, h5, h6, h7, h8, h9⟩
        · have e0 : (!pl.isEmpty) = true := by cases pl with | nil => exact absurd rfl hpl0 | cons _ _ => rfl
          rw [e0]
          refine iteT ?_
          obtain ⟨ta, tb, us3, rfl, hta, htb, hd3⟩ := tr_parts k4
          walk_at "step"
          refine v_ixT (s10.sqT hta) (v := .str n) (atI_nat (j := 0) rfl) ?_
          walk_at "step"
          refine ⟨sl64 (by simp), fun c9 hc9 => ?_⟩
          have s11 := Same.new hc9 (.tup [.str n])
          refine v_catH (s11 _ _ (s10 _ _ k3)) upd_same (by rw [strV_len]; exact sl64 (by show ns.length + 1 ≤ _; omega)) fun ab H12 s12 hab => ?_
          walk_at "step"
          refine fin _ ab H12 (Same.tr s10 (Same.tr s11 s12)) (by rw [hab]; unfold abv; rw [if_neg hpl0, ← strV_app]; rfl) fun p2 us' ws done stk H'' h1 h2 h3 h4 h5 h6 h7 h8 h9 => ⟨p2, _, _, _, _, us', ws, done, stk, rfl, h1, h2, h3, h4, h5, h6, h7, h8, h9⟩
end My
namespace My
open PySem L2
variable {K : PySem.W.Frag} {vs : List V} {H : Hp} {Q : VK} {E : XK}
mutual
def wbK (pl : List Int) (ab : List Str) : Tr → List (T3 × Bool)
  | .tx _ => []
  | .nd _ ps => wbS pl ab 0 false ps
def wbS (pl : List Int) (ab : List Str) (k : Nat) (bs : Bool) : List Tr → List (T3 × Bool)
  | [] => []
  | t :: ts => ((pl ++ [(k : Int)], ab, t), bs) :: (wbK (pl ++ [(k : Int)]) (ab ++ [nmOf t]) t ++ wbS pl ab (k + 1) t.isTx ts)
end
mutual
theorem wbK_wk (pl : List Int) (ns ab : List Str) : ∀ t : Tr, wkT pl ns ab t = (pl, ns, t) :: (wbK pl ab t).map (·.1)
  | .tx s => by rw [wkT, wbK]; rfl
  | .nd n ps => by rw [wkT, wbK, wbS_wk pl ab 0 false ps]
theorem wbS_wk (pl : List Int) (ab : List Str) (k : Nat) (bs : Bool) : ∀ ts : List Tr, wkS pl ab k ts = (wbS pl ab k bs ts).map (·.1)
  | [] => by rw [wkS, wbS]; rfl
  | t :: ts => by rw [wkS, wbS, wbK_wk (pl ++ [(k : Int)]) ab (ab ++ [nmOf t]) t, wbS_wk pl ab (k + 1) t.isTx ts, List.map_cons, List.map_append]; rfl
end
def fOf (rs : List Row) (y : T3 × Bool) : List Int × Option Str := (y.1.1, faultF rs y.1.2.1 y.1.2.2 y.2)
mutual
theorem wbK_ff (rs : List Row) (pl : List Int) (ab : List Str) : ∀ t : Tr, ffk rs pl ab t = (wbK pl ab t).map (fOf rs)
  | .tx s => by rw [ffk, wbK]; rfl
  | .nd n ps => by rw [ffk, wbK, wbS_ff rs pl ab 0 false ps]
theorem wbS_ff (rs : List Row) (pl : List Int) (ab : List Str) (k : Nat) (bs : Bool) : ∀ ts : List Tr, ffs rs pl ab k bs ts = (wbS pl ab k bs ts).map (fOf rs)
  | [] => by rw [ffs, wbS]; rfl
  | t :: ts => by rw [ffs, wbS, wbK_ff rs (pl ++ [(k : Int)]) (ab ++ [nmOf t]) t, wbS_ff rs pl ab (k + 1) t.isTx ts, List.map_cons, List.map_append]; rfl
end
mutual
theorem wbK_way (t : Tr) (q : List Int) (ab : List Str) (ws : List Tr) : ∀ p : Tr, way t q = some (ws ++ [p]) → ∀ y ∈ wbK q ab p, ∃ ws', way t y.1.1 = some (ws' ++ [y.1.2.2])
  | .tx s, _, y, hy => by rw [wbK] at hy; cases hy
  | .nd n ps, hw, y, hy => by
    rw [wbK] at hy
    exact wbS_way t q ab ws (.nd n ps) hw [] ps rfl 0 false rfl y hy
theorem wbS_way (t : Tr) (q : List Int) (ab : List Str) (ws : List Tr) (p : Tr) (hw : way t q = some (ws ++ [p])) : ∀ (done ts : List Tr), p.kids = done ++ ts → ∀ (k : Nat) (bs : Bool), k = done.length → ∀ y ∈ wbS q ab k bs ts, ∃ ws', way t y.1.1 = some (ws' ++ [y.1.2.2])
  | done, [], _, k, bs, _, y, hy => by rw [wbS] at hy; cases hy
  | done, u :: us, hk, k, bs, hl, y, hy => by
    have ek : p.kids[k]? = some u := by rw [hk, hl]; simp
    have hw2 := way_snoc hw ek
    rw [wbS, List.mem_cons, List.mem_append] at hy
    rcases hy with rfl | hy | hy
    · exact ⟨ws ++ [p], hw2⟩
    · exact wbK_way t _ _ (ws ++ [p]) u hw2 y hy
    · exact wbS_way t q ab ws p hw (done ++ [u]) us (by rw [hk]; simp) (k + 1) u.isTx (by simp [hl]) y hy
end
def Sib (pl : List Int) (k : Nat) (bs : Bool) (L : List (T3 × Bool)) : Prop := ∀ (i : Nat) (y : T3 × Bool), L[i]? = some y → ∃ (q : List Int) (m : Nat), y.1.1 = q ++ [(m : Int)] ∧ ((m = 0 ∧ y.2 = false) ∨ (∃ m', m = m' + 1 ∧ ∃ z ∈ L.take i, z.1.1 = q ++ [(m' : Int)] ∧ z.1.2.2.isTx = y.2) ∨ (q = pl ∧ m = k ∧ y.2 = bs))
mutual
theorem wbK_sib (pl : List Int) (ab : List Str) : ∀ t : Tr, Sib pl 0 false (wbK pl ab t)
  | .tx s => by rw [wbK]; intro i y h; simp at h
  | .nd n ps => by rw [wbK]; exact wbS_sib pl ab 0 false ps
theorem wbS_sib (pl : List Int) (ab : List Str) (k : Nat) (bs : Bool) : ∀ ts : List Tr, Sib pl k bs (wbS pl ab k bs ts)
  | [] => by rw [wbS]; intro i y h; simp at h
  | t :: ts => by
    rw [wbS]
    intro i y h
    cases i with
    | zero => cases h; exact ⟨pl, k, rfl, .inr (.inr ⟨rfl, rfl, rfl⟩)⟩
    | succ i =>
      rw [List.getElem?_cons_succ] at h
      rw [List.take_succ_cons]
      by_cases hi : i < (wbK (pl ++ [(k : Int)]) (ab ++ [nmOf t]) t).length
      · rw [List.getElem?_append_left hi] at h
        obtain ⟨q, m, e, hc⟩ := wbK_sib (pl ++ [(k : Int)]) (ab ++ [nmOf t]) t i y h
        refine ⟨q, m, e, ?_⟩
        rcases hc with hc | ⟨m', h1, z, hz, h2⟩ | ⟨h1, h2, h3⟩
        · exact .inl hc
        · exact .inr (.inl ⟨m', h1, z, List.mem_cons_of_mem _ (by rw [List.take_append_of_le_length (by omega)]; exact hz), h2⟩)
        · exact .inl ⟨h2, h3⟩
      · rw [List.getElem?_append_right (by omega)] at h
        obtain ⟨q, m, e, hc⟩ := wbS_sib pl ab (k + 1) t.isTx ts _ y h
        refine ⟨q, m, e, ?_⟩
        rcases hc with hc | ⟨m', h1, z, hz, h2⟩ | ⟨h1, h2, h3⟩
        · exact .inl hc
        · exact .inr (.inl ⟨m', h1, z, List.mem_cons_of_mem _ (by rw [List.take_append]; exact List.mem_append.mpr (.inr hz)), h2⟩)
        · subst h1 h2
          exact .inr (.inl ⟨k, rfl, ((q ++ [(k : Int)], ab, t), bs), List.mem_cons_self, rfl, h3.symm⟩)
end
theorem way_last {t u w : Tr} {q : List Int} {ws ws' : List Tr} (h : way t q = some (ws ++ [u])) (g : way t q = some (ws' ++ [w])) : u = w := by
  rw [h] at g
  have := congrArg List.getLast? (Option.some.inj g)
  simpa using this
theorem way_neg {q : List Int} {t : Tr} {x : List Tr} (h : way t (q ++ [(-1 : Int)]) = some x) : False := by
  induction q generalizing t x with
  | nil => have := (way_cons h).1; omega
  | cons k q ih => obtain ⟨_, u, ws, _, h2, _⟩ := way_cons h; exact ih h2
def ky (pl : List Int) : List Key := pl.map Sum.inl
theorem ky_kV (pl : List Int) : (ky pl).map kV = intV pl := by unfold ky intV; rw [List.map_map]; rfl
theorem ky_inj : ∀ {a b : List Int}, ky a = ky b → a = b
  | [], [], _ => rfl
  | [], _ :: _, h => by cases h
  | _ :: _, [], h => by cases h
  | x :: a, y :: b, h => by
    have h : (Sum.inl x :: ky a : List Key) = Sum.inl y :: ky b := h
    injection h with h1 h2
    rw [Sum.inl.inj h1, ky_inj h2]
theorem tupK_dT {d : Addr} {xs : List (List Key × V)} {o : HO} (h : H d = some (.dT xs)) : TupK H (upd H d o) :=
  ⟨fun b zs e => by rw [upd_ne (fun z => by rw [z, h] at e; cases e)]; exact e, fun b o zs e => by rw [upd_ne (fun z => by rw [z, h] at e; cases e)]; exact e⟩
def oD : Option Str → PyData
  | none => .none
  | some r => .str r
theorem dv_oD (x : Option Str) : Dv K H (oD x) (oV x) := by cases x with | none => exact dv_none.mpr rfl | some r => exact dv_str.mpr rfl
def fD (x : List Int × Option Str) : PyData := .tuple [oD x.2, .tuple (intD x.1)]
theorem oD_fix (x : Option Str) : fix (oD x) = true := by cases x <;> (unfold oD; rw [fix])
theorem fD_fix (x : List Int × Option Str) : fix (fD x) = true := by unfold fD; rw [fix, fixs, fixs, fixs, oD_fix, fix, intD_fix]; rfl
theorem fD_parts {x : List Int × Option Str} {v : V} (h : Dv K H (fD x) v) : ∃ a b, v = .ref a ∧ SqT K H a [oV x.2, .ref b] ∧ SqT K H b (intV x.1) := by
  obtain ⟨a, xs, rfl, ha, h⟩ := dv_tuple.mp h
  rw [Dvs] at h; obtain ⟨v1, r1, rfl, e1, h⟩ := h
  rw [Dvs] at h; obtain ⟨v2, r2, rfl, e2, h⟩ := h
  rw [Dvs] at h; subst h
  have e1 : v1 = oV x.2 := by
    cases e : x.2 with
    | none => rw [e] at e1; exact dv_none.mp e1
    | some r => rw [e] at e1; exact dv_str.mp e1
  subst e1
  obtain ⟨b, ys, rfl, hb, h⟩ := dv_tuple.mp e2
  rw [dvs_intD] at h; subst h
  exact ⟨a, b, rfl, ha, hb⟩
@[reducible] def T__law_faults_0 (K : PySem.W.Frag) : TS :=
 (tDrop (tBM K "list" rAppend (tVar 2) (tCons (tTup (tCons (tCall (sp__law_fault K) [] E0 (tCons (tVar 0) (tCons (tVar 6) (tCons (tVar 7) (tCons (tVar 8) tNil))))) (tCons (tVar 5) tNil))) tNil)))
@[reducible] def T__law_faults_1 (K : PySem.W.Frag) : TS :=
 (tSeq (tAsg (tDGet1 (tVar 4) (tOp (rAddB K) (tSl (rSlB K) (tVar 5) tNoPart (tPart (tUn (rU fun i => .int (-i)) (tC (.int 1))))) (tTup (tCons (tOp (rI0 fun i j => .int (i - j)) (tOp (rIxA K) (tVar 5) (tUn (rU fun i => .int (-i)) (tC (.int 1)))) (tC (.int 1))) tNil)))) (gName 8))
 (T__law_faults_0 K))
def faultsB (K : PySem.W.Frag) : TS :=
 (tIfS (tTest (tOp (rNeA K) (tVar 5) (tTup tNil)))
 (T__law_faults_1 K) tNext)
@[reducible] def T__law_faults_2 (K : PySem.W.Frag) : TS :=
 (tSeq (tAsg (tVar 7) (gSub (tVar 4) (tVar 5) rSetA))
 (faultsB K))
@[reducible] def T__law_faults_3 (K : PySem.W.Frag) : TS :=
 (tSeq (tFor (iAny K (tVar 3)) (gTup K 3 (gCons (gName 5) (gCons (gName 6) (gCons (gName 7) gNil))))
 (T__law_faults_2 K))
 (tRet (tVar 2)))
@[reducible] def T__law_faults_4 (K : PySem.W.Frag) : TS :=
 (tSeq (tAsg (tCall (sp__law_walk K) [] E0 (tCons (tVar 1) tNil)) (gName 3))
 (tSeq (tAsg tDNewT (gName 4))
 (T__law_faults_3 K)))
def sp__law_faults (K : PySem.W.Frag) : Sp := fun vs H Q _ => ∃ (bv v : V) (rs : List Row) (t : Tr), vs = [bv, v] ∧ BkS rs ∧ Rws K H bv rs ∧ rs.length ≤ 1000 ∧ Dv K H t.da v ∧ wt t ≤ 30000 ∧ hgt t ≤ 700 ∧ ∀ (p : Addr) (us : List V) (H' : Hp), Same H H' → H' p = some (.lst us) → Dvs K H' ((ffk rs [] [] t).map fD) us → Q (.ref p) H'
theorem len__law_faults (K : PySem.W.Frag) : ∀ vs H Q E, sp__law_faults K vs H Q E → vs.length = ["_law_book_here", "_law_tree_here"].length := by rintro vs H Q E ⟨bv, v, rs, t, rfl, _⟩; rfl
def R__law_faults (K : PySem.W.Frag) : TS :=
 (tSeq (tAsg (tLst tNil) (gName 2))
 (T__law_faults_4 K))
theorem rd__law_faults (h : sp__law_faults K vs H Q E) : R__law_faults K { nx := fun _ H' => Q .non H', rt := Q } (start ["_law_book_here", "_law_tree_here", "_law_due", "_law_walked", "_law_parts", "_law_place", "_law_names", "_law_part", "_law_ahead"] vs) H := by
  obtain ⟨bv, v, rs, t, rfl, B, hR, hrl, hd, hz, hh, q⟩ := h
  show R__law_faults K _ [some bv, some v, none, none, none, none, none, none, none] H
  unfold R__law_faults
  walk_at "step"
  refine ⟨sl64 (by simp), fun du hdu => ?_⟩
  have s1 := Same.new hdu (.lst [])
  have e1 : (upd H du (.lst [])) du = some (.lst []) := upd_same
  generalize upd H du (.lst []) = H1 at *
  walk_at "step"
  refine ⟨t, v, rfl, Dv.same s1 _ _ hd, by omega, fun wd us H2 s2 nwd hwd w3 => ?_⟩
  walk_at "step"
  intro dc hdc
  have s3 := Same.new hdc (.dT [])
  have e3 : (upd H2 dc (.dT [])) dc = some (.dT []) := upd_same
  have ndd : du ≠ dc := ne_free (s2 _ _ e1) hdc
  have ndw : du ≠ wd := fun z => by rw [← z, e1] at nwd; cases nwd
  have ncw : wd ≠ dc := ne_free hwd hdc
  have e1 := s3 _ _ (s2 _ _ e1)
  have nwd0 : H wd = none := none_of s1 nwd
  have ndc0 : H dc = none := none_of (Same.tr s1 s2) hdc
  have hwd := s3 _ _ hwd
  have w3 := w3.tupK s3.tupK
  have s13 := Same.tr s1 (Same.tr s2 s3)
  generalize upd H2 dc (.dT []) = H3 at *
  have hul := w3.length
  have hwk : wk ([], [], t) = ([], [], t) :: (wbK [] [] t).map (·.1) := wbK_wk [] [] [] t
  have hwl : (wk ([], [], t)).length ≤ wt t := wkT_wt _ _ _ t
  walk_at "step"
  let Pv0 : Nat → St → Hp → Prop := fun i σ H' => ∃ (a5 a6 a7 a8 : Option V) (ds : List V) (kvs : List (List Key × V)), σ = [some bv, some v, some (.ref du), some (.ref wd), some (.ref dc), a5, a6, a7, a8] ∧ Same H H' ∧ H' du = some (.lst ds) ∧ H' wd = some (.lst us) ∧ H' dc = some (.dT kvs) ∧ W3s K H' (wk ([], [], t)) us ∧ Dvs K H' (((ffk rs [] [] t).take (i - 1)).map fD) ds ∧ kvs.length ≤ i ∧ (∀ pl w, valV kvs (ky pl) = some w → ∃ ws u, way t pl = some (ws ++ [u]) ∧ Dv K H' u.da w) ∧ ∀ x ∈ (wk ([], [], t)).take i, ∃ w, valV kvs (ky x.1) = some w
  refine ⟨wd, rfl, .inl ⟨⟨us, SqL.of hwd⟩, for_list (xs := us) Pv0 ⟨_, _, _, _, [], [], rfl, s13, e1, hwd, e3, w3, dvs_nil, by simp, fun pl w h => by simp [valV_nil] at h, by simp⟩ ?_ ?_ ?_⟩⟩
  · rintro i σ H' hi ⟨a5, a6, a7, a8, ds, kvs, rfl, z1, z2, z3, z⟩
    exact SqL.of z3
  · rintro i x σ H' hx ⟨a5, a6, a7, a8, ds, kvs, rfl, z1, z2, z3, z4, z5, z6, z7, zA, zB⟩
    obtain ⟨y, hy, wy⟩ := z5.get hx
    obtain ⟨xa, pa, na, pv, rfl, k1, k2, k3, k4⟩ := wy
    have hil : i < (wk ([], [], t)).length := (List.getElem?_eq_some_iff.mp hy).1
    have hylen := wkT_h [] [] (abv ([], [], t)) (by simp) t y (List.mem_of_getElem? hy)
    have hab0 : (abv ([], [], t)).length = 0 := rfl
    rw [hab0] at hylen
    simp only [List.length_nil, Nat.zero_add] at hylen
    have hway : ∃ ws, way t y.1 = some (ws ++ [y.2.2]) := by
      have hm := List.mem_of_getElem? hy
      rw [hwk, List.mem_cons] at hm
      rcases hm with rfl | hm
      · exact ⟨[], by rw [way]; rfl⟩
      · obtain ⟨w, hw, rfl⟩ := List.mem_map.mp hm
        exact wbK_way t [] [] [] t (by rw [way]; rfl) w hw
    refine ⟨xa, _, rfl, SqT.of k1, rfl, _, _, rfl, st_name ⟨_, _, rfl, st_name ⟨_, _, rfl, st_name ⟨rfl, ?_⟩⟩⟩⟩
    walk_at "step"
    refine .inr ⟨dc, _, rfl, DPut.t (k := ky y.1) z4 (by rw [k2, ky_kV]) (by rw [sizeLine_eq]; omega), ?_⟩
    have tk := tupK_dT (o := .dT (putK kvs (ky y.1) pv)) z4
    have u1 : Same H (upd H' dc (.dT (putK kvs (ky y.1) pv))) := Same.put z1 ndc0 _
    have u2 : (upd H' dc (.dT (putK kvs (ky y.1) pv))) du = some (.lst ds) := by rw [upd_ne ndd]; exact z2
    have u3 : (upd H' dc (.dT (putK kvs (ky y.1) pv))) wd = some (.lst us) := by rw [upd_ne ncw]; exact z3
    have u4 : (upd H' dc (.dT (putK kvs (ky y.1) pv))) dc = some (.dT (putK kvs (ky y.1) pv)) := upd_same
    have u5 := z5.tupK tk
    have u6 := Dvs.tupK tk _ _ (fixs_map fD_fix _) z6
    have k2 := tk.1 _ _ k2
    have k3 := tk.1 _ _ k3
    have k4 := Dv.tupK tk _ _ (da_fix _) k4
    have uA : ∀ pl w, valV (putK kvs (ky y.1) pv) (ky pl) = some w → ∃ ws u, way t pl = some (ws ++ [u]) ∧ Dv K (upd H' dc (.dT (putK kvs (ky y.1) pv))) u.da w := by
      intro pl w h
      rw [valV_put] at h
      by_cases e : ky pl = ky y.1
      · rw [if_pos e] at h
        cases h
        obtain ⟨ws, hw⟩ := hway
        rw [ky_inj e]
        exact ⟨ws, _, hw, k4⟩
      · rw [if_neg e] at h
        obtain ⟨ws, u, h1, h2⟩ := zA pl w h
        exact ⟨ws, u, h1, Dv.tupK tk _ _ (da_fix _) h2⟩
    have uB : ∀ x ∈ (wk ([], [], t)).take (i + 1), ∃ w, valV (putK kvs (ky y.1) pv) (ky x.1) = some w := by
      intro x hx
      rw [valV_put]
      by_cases e : ky x.1 = ky y.1
      · rw [if_pos e]; exact ⟨_, rfl⟩
      · rw [if_neg e]
        rw [List.take_add_one, hy] at hx
        rcases List.mem_append.mp hx with hx | hx
        · exact zB x hx
        · have : x = y := by simpa using hx
          rw [this] at e; exact absurd rfl e
    have uL : (putK kvs (ky y.1) pv).length ≤ i + 1 := by
      unfold putK
      split
      · rw [List.length_map]; omega
      · rw [List.length_append, List.length_singleton]; omega
    generalize putK kvs (ky y.1) pv = kvs' at *
    generalize upd H' dc (.dT kvs') = H4 at *
    clear z1 z2 z3 z4 z5 z6 zA zB tk k1
    unfold faultsB
    walk_at "step"
    refine ⟨sl64 (by simp), fun e0 he0 => ?_⟩
    have s4 := Same.new he0 (.tup [])
    refine v_neM (d := .tuple (intD y.1)) (e := .tuple []) (dv_tuple.mpr ⟨pa, _, rfl, SqT.of (s4 _ _ k2), dvs_intD.mpr rfl⟩) (dv_tuple.mpr ⟨e0, [], rfl, SqT.of upd_same, dvs_nil⟩) (Nat.le_trans (Nat.min_le_right _ _) (by decide)) ?_
    rw [eqv_unit]
    have u1 := Same.tr u1 s4
    have u2 := s4 _ _ u2
    have u3 := s4 _ _ u3
    have u4 := s4 _ _ u4
    have u5 := u5.tupK s4.tupK
    have u6 := Dvs.same s4 _ _ u6
    have k2 := s4 _ _ k2
    have k3 := s4 _ _ k3
    have k4 := Dv.same s4 _ _ k4
    have uA : ∀ pl w, valV kvs' (ky pl) = some w → ∃ ws u, way t pl = some (ws ++ [u]) ∧ Dv K (upd H4 e0 (.tup [])) u.da w := fun pl w h => by obtain ⟨ws, u, h1, h2⟩ := uA pl w h; exact ⟨ws, u, h1, Dv.same s4 _ _ h2⟩
    generalize upd H4 e0 (.tup []) = H5 at *
    walk_at "step"
    cases i with
    | zero =>
      rw [hwk] at hy
      cases hy
      refine iteF ?_
      walk_at "step"
      exact ⟨_, _, _, _, ds, kvs', rfl, u1, u2, u3, u4, u5, u6, uL, uA, uB⟩
    | succ i =>
      rw [hwk, List.getElem?_cons_succ, List.getElem?_map] at hy
      obtain ⟨yb, hyb, rfl⟩ := Option.map_eq_some_iff.mp hy
      obtain ⟨qq, m, eq, hc⟩ := wbK_sib [] [] t i yb hyb
      have e0 : (!yb.1.1.isEmpty) = true := by rw [eq]; cases qq <;> rfl
      rw [e0]
      refine iteT ?_
      have hc : (m = 0 ∧ yb.2 = false) ∨ (∃ m', m = m' + 1 ∧ ∃ z ∈ (wbK [] [] t).take i, z.1.1 = qq ++ [(m' : Int)] ∧ z.1.2.2.isTx = yb.2) := by
        rcases hc with hc | hc | ⟨_, h2, h3⟩
        · exact .inl hc
        · exact .inr hc
        · exact .inl ⟨h2, h3⟩
      have hff : (ffk rs [] [] t)[i]? = some (fOf rs yb) := by rw [wbK_ff, List.getElem?_map, hyb]; rfl
      rw [eq] at hylen k2
      rw [List.length_append, List.length_singleton] at hylen
      walk_at "step"
      unfold tDGet1
      walk_at "step"
      refine ⟨dc, rfl, .inr ⟨kvs', .inl u4⟩, ?_⟩
      walk_at "step"
      refine ⟨1, rfl, ?_⟩
      walk_at "step"
      refine v_slH k2 fun c1 H6 s6 hc1 => ?_
      rw [intV_snoc, cut_last] at hc1
      walk_at "step"
      refine ⟨1, rfl, ?_⟩
      refine v_ixT (SqT.of (s6 _ _ k2)) (v := .int m) (atI_last (n := (intV qq).length) (by rw [intV_snoc]; simp) (by rw [intV_snoc]; simp)) ?_
      walk_at "step"
      refine ⟨sl64 (by simp), fun c2 hc2 => ?_⟩
      have s7 := Same.new hc2 (.tup [.int ((m : Int) - 1)])
      refine v_catH (s7 _ _ hc1) upd_same (by rw [intV_len]; exact sl64 (by show qq.length + 1 ≤ _; omega)) fun c3 H8 s8 hc3 => ?_
      have hc3 : H8 c3 = some (.tup ((ky (qq ++ [(m : Int) - 1])).map kV)) := by rw [ky_kV, hc3, intV_snoc]
      have s58 : Same H5 H8 := Same.tr s6 (Same.tr s7 s8)
      have u1 := Same.tr u1 s58
      have u2 := s58 _ _ u2
      have u3 := s58 _ _ u3
      have u4 := s58 _ _ u4
      have u5 := u5.tupK s58.tupK
      have u6 := Dvs.same s58 _ _ u6
      have k2 := s58 _ _ k2
      have k3 := s58 _ _ k3
      have k4 := Dv.same s58 _ _ k4
      have uA : ∀ pl w, valV kvs' (ky pl) = some w → ∃ ws u, way t pl = some (ws ++ [u]) ∧ Dv K H8 u.da w := fun pl w h => by obtain ⟨ws, u, h1, h2⟩ := uA pl w h; exact ⟨ws, u, h1, Dv.same s58 _ _ h2⟩
      refine ⟨_, DGet.t u4 hc3, ?_⟩
      have hah : Ahd K H8 ((valV kvs' (ky (qq ++ [(m : Int) - 1]))).getD .non) yb.2 := by
        rcases hc with ⟨rfl, h2⟩ | ⟨m', rfl, z, hz, h3, h4⟩
        · cases e : valV kvs' (ky (qq ++ [((0 : Nat) : Int) - 1])) with
          | none => exact .inl ⟨rfl, h2⟩
          | some w =>
            obtain ⟨ws, u, h5, _⟩ := uA _ _ e
            exact (way_neg h5).elim
        · have em : (((m' + 1 : Nat) : Int) - 1) = (m' : Int) := by omega
          rw [em]
          obtain ⟨w, hw⟩ := uB z.1 (by
            rw [hwk, List.take_succ_cons]
            refine List.mem_cons_of_mem _ ?_
            rw [← List.map_take]
            refine List.mem_map_of_mem ?_
            rw [List.take_add_one]
            exact List.mem_append.mpr (.inl hz))
          rw [h3] at hw
          rw [hw]
          obtain ⟨ws, u, h5, h6⟩ := uA _ _ hw
          obtain ⟨ws', h7⟩ := wbK_way t [] [] [] t (by rw [way]; rfl) z (List.mem_of_mem_take hz)
          rw [h3] at h7
          have := way_last h5 h7
          exact .inr ⟨u, h6, by rw [this]; exact h4⟩
      generalize (valV kvs' (ky (qq ++ [(m : Int) - 1]))).getD .non = av at *
      walk_at "step"
      refine ⟨.inl ⟨rfl, _, SqL.of u2⟩, ?_⟩
      walk_at "step"
      refine ⟨bv, na, pv, av, rs, yb.1.2.1, yb.1.2.2, yb.2, rfl, B, hR.same u1, hrl, SqT.of k3, by omega, k4, hah, fun H9 s9 => ?_⟩
      walk_at "step"
      refine ⟨sl64 (by simp), fun c4 hc4 => ?_⟩
      have s10 := Same.new hc4 (.tup [oV (faultF rs yb.1.2.1 yb.1.2.2 yb.2), .ref pa])
      have e10 : (upd H9 c4 (.tup [oV (faultF rs yb.1.2.1 yb.1.2.2 yb.2), .ref pa])) c4 = some (.tup [oV (faultF rs yb.1.2.1 yb.1.2.2 yb.2), .ref pa]) := upd_same
      generalize upd H9 c4 (.tup [oV (faultF rs yb.1.2.1 yb.1.2.2 yb.2), .ref pa]) = H10 at *
      have s810 := Same.tr s9 s10
      have u1 := Same.tr u1 s810
      have u2 := s810 _ _ u2
      have u3 := s810 _ _ u3
      have u4 := s810 _ _ u4
      have u5 := u5.tupK s810.tupK
      have u6 := Dvs.same s810 _ _ u6
      have k2 := s810 _ _ k2
      have hdsl : ds.length ≤ i := by
        have := u6.length
        rw [List.length_map, List.length_take] at this
        have e : i + 1 - 1 = i := by omega
        rw [e] at this
        omega
      walk_at "step"
      refine v_append u2 (by rw [sizeLine_eq]; omega) ?_
      have tk := tupK_lst (ys := ds ++ [.ref c4]) u2
      refine ⟨_, _, _, _, _, kvs', rfl, Same.put u1 hdu _, upd_same, by rw [upd_ne (Ne.symm ndw)]; exact u3, by rw [upd_ne (Ne.symm ndd)]; exact u4, u5.tupK tk, ?_, uL, fun pl w h => ?_, uB⟩
      · have e : i + 1 + 1 - 1 = i + 1 := by omega
        rw [e, List.take_add_one, hff, List.map_append]
        have e : i + 1 - 1 = i := by omega
        rw [e] at u6
        refine Dvs.append (Dvs.tupK tk _ _ (fixs_map fD_fix _) u6) (Dvs.one ?_)
        unfold fD fOf
        refine dv_tuple.mpr ⟨c4, _, rfl, SqT.of (tk.1 _ _ e10), dvs_cons (dv_oD _) (dvs_cons (dv_tuple.mpr ⟨pa, _, rfl, SqT.of (tk.1 _ _ k2), ?_⟩) dvs_nil)⟩
        rw [← eq]
        exact dvs_intD.mpr rfl
      · obtain ⟨ws, u, h1, h2⟩ := uA pl w h
        exact ⟨ws, u, h1, Dv.tupK tk _ _ (da_fix _) (Dv.same s810 _ _ h2)⟩
  · rintro σ H' ⟨a5, a6, a7, a8, ds, kvs, rfl, z1, z2, z3, z4, z5, z6, z7, zA, zB⟩
    walk_at "step"
    refine q du ds H' z1 z2 ?_
    have hlen : (ffk rs [] [] t).length = us.length - 1 := by rw [hul, hwk, wbK_ff]; simp
    rw [List.take_of_length_le (by omega)] at z6
    exact z6
end My
namespace My
open PySem L2
variable {K : PySem.W.Frag} {vs : List V} {H : Hp} {Q : VK} {E : XK}
def Hst (n : Nat) (kvs : List (Key × V)) : Prop := ∀ kv ∈ kvs, ∃ j : Int, kv.2 = .int j ∧ 0 ≤ j ∧ j < n
theorem hst_ints {n : Nat} : ∀ {kvs : List (Key × V)}, Hst n kvs → ∃ js : List Int, kvs.map (·.2) = js.map V.int
  | [], _ => ⟨[], rfl⟩
  | kv :: kvs, h => by
    obtain ⟨j, e, _⟩ := h kv (by simp)
    obtain ⟨js, e2⟩ := hst_ints (kvs := kvs) fun x hx => h x (by simp [hx])
    exact ⟨j :: js, by rw [List.map_cons, List.map_cons, e, e2]⟩
def HS (n : Nat) (ss : List Str) (i : Nat) (kvs : List (Key × V)) : Prop := (∀ kv ∈ kvs, ∃ (k : Nat) (j : Int), kv = (.inl (k : Int), .int j) ∧ 0 ≤ j ∧ j < n ∧ k < i ∧ ss[k]? = some ("frame" : Str)) ∧ (kvs.map (·.2)).Nodup
theorem HS.hst {n i : Nat} {ss : List Str} {kvs : List (Key × V)} (h : HS n ss i kvs) : Hst n kvs := fun kv hm => by obtain ⟨k, j, rfl, h0, h1, _⟩ := h.1 kv hm; exact ⟨j, rfl, h0, h1⟩
theorem HS.mono {n i : Nat} {ss : List Str} {kvs : List (Key × V)} (h : HS n ss i kvs) : HS n ss (i + 1) kvs := ⟨fun kv hm => by obtain ⟨k, j, e, h0, h1, h2, h3⟩ := h.1 kv hm; exact ⟨k, j, e, h0, h1, by omega, h3⟩, h.2⟩
theorem HS.set {n i : Nat} {ss : List Str} {kvs : List (Key × V)} (h : HS n ss i kvs) (x : Str) : HS n (ss.set i x) (i + 1) kvs := ⟨fun kv hm => by obtain ⟨k, j, e, h0, h1, h2, h3⟩ := h.1 kv hm; exact ⟨k, j, e, h0, h1, by omega, by rw [List.getElem?_set_ne (by omega)]; exact h3⟩, h.2⟩
theorem HS.put {n i : Nat} {ss : List Str} {kvs : List (Key × V)} (h : HS n ss i kvs) {j : Int} (h0 : 0 ≤ j) (h1 : j < n) (hs : ss[i]? = some ("frame" : Str)) (hn : V.int j ∉ kvs.map (·.2)) : HS n ss (i + 1) (putK kvs (.inl (i : Int)) (.int j)) := by
  have hv : valV kvs (.inl (i : Int)) = none := by
    unfold valV
    rw [Option.map_eq_none_iff, List.find?_eq_none]
    intro kv hm
    obtain ⟨k, j', rfl, _, _, h2, _⟩ := h.1 kv hm
    simp
    omega
  rw [putK_new _ hv]
  refine ⟨fun kv hm => ?_, ?_⟩
  · rcases List.mem_append.mp hm with hm | hm
    · exact h.mono.1 kv hm
    · rw [List.mem_singleton.mp hm]; exact ⟨i, j, rfl, h0, h1, by omega, hs⟩
  · rw [List.map_append, List.nodup_append]
    refine ⟨h.2, by simp, ?_⟩
    intro a ha b hb
    rw [List.mem_singleton.mp hb]
    rintro rfl
    exact hn ha
theorem hst_val {n : Nat} {kvs : List (Key × V)} {k : Key} {v : V} (h : Hst n kvs) (e : valV kvs k = some v) : ∃ j : Int, v = .int j ∧ 0 ≤ j ∧ j < n := by
  unfold valV at e
  obtain ⟨kv, hf, rfl⟩ := Option.map_eq_some_iff.mp e
  exact h kv (List.mem_of_find?_eq_some hf)
@[reducible] def T__law_sorts_0 (K : PySem.W.Frag) : TS :=
 (tAsg (tOp (rIxA K) (tLst (tCons (tC (.str ("room" : Str))) (tCons (tC (.str ("plain" : Str))) tNil))) (tCB rIntA (tCons (tInV false (tVar 5) (tVar 4)) tNil))) (gSub (tVar 3) (tVar 5) rSetA))
@[reducible] def T__law_sorts_1 (K : PySem.W.Frag) : TS :=
 (tAsg (tOp (rIxA K) (tVar 6) (tCall (sp__law_draw K) [] E0 (tCons (tVar 0) (tCons (tCB (rLenA K) (tCons (tVar 6) tNil)) tNil)))) (gSub (tVar 4) (tVar 5) rSetA))
@[reducible] def T__law_sorts_2 (K : PySem.W.Frag) : TS :=
 (tSeq (tAsg (tComp [some 3, some 4, none] (iRng2 (tCons (tOp (rAddA K) (tVar 5) (tC (.int 1))) (tCons (tVar 1) tNil))) (gName 2) (tAnd (tTest (tOp (rInB K false) (tOp (rIxA K) (tVar 0) (tVar 2)) (tTup (tCons (tC (.str ("plain" : Str))) (tCons (tC (.str ("frame" : Str))) tNil))))) (tTest (tInV true (tVar 2) (tVar 1)))) (tVar 2)) (gName 6))
 (tIfS (tTest (tOp (rEqA K) (tVar 6) (tLst tNil)))
 (T__law_sorts_0 K) (T__law_sorts_1 K)))
def sortT (K : PySem.W.Frag) : TS :=
 (tIfS (tTest (tOp (rEqA K) (tOp (rIxA K) (tVar 3) (tVar 5)) (tC (.str ("frame" : Str)))))
 (T__law_sorts_2 K) tNext)
theorem sort_tail {D : Ends} {d sa hb kd : Addr} {n k : Nat} {ss : List Str} {kvs : List (Key × V)} {a6 : Option V} (hk : k < n) (hn : n ≤ 16) (dk : Dk H d) (hsa : H sa = some (.lst (strV ss))) (hl : ss.length = n) (hss : ∀ s ∈ ss, s.length ≤ 8 ∧ s ≠ ("" : Str)) (nsa : sa ≠ d) (hhb : H hb = some (.dK kvs)) (hh : HS n ss k kvs) (hkl : kvs.length ≤ k)
    (q : ∀ (H' : Hp) (ss : List Str) (kvs : List (Key × V)) (a6 : Option V), But [d, sa, hb] H H' → Dk H' d → H' sa = some (.lst (strV ss)) → ss.length = n → (∀ s ∈ ss, s.length ≤ 8 ∧ s ≠ ("" : Str)) → H' hb = some (.dK kvs) → HS n ss (k + 1) kvs → kvs.length ≤ k + 1 → D.nx [some (.ref d), some (.int n), some (.ref kd), some (.ref sa), some (.ref hb), some (.int k), a6] H') :
    sortT K D [some (.ref d), some (.int n), some (.ref kd), some (.ref sa), some (.ref hb), some (.int k), a6] H := by
  have nhb : hb ≠ d := fun e => by obtain ⟨ns, h, _⟩ := dk; rw [← e, hhb] at h; cases h
  have nsh : sa ≠ hb := fun e => by rw [e, hhb] at hsa; cases hsa
  unfold sortT
  walk_at "step"
  refine v_ixL (SqL.of hsa) (atI_nat (strV_at (by omega))) ?_
  walk_at "step"
  by_cases ef : ss[k] = ("frame" : Str)
  · rw [decide_eq_true ef]; refine iteT ?_
    walk_at "step"
    let Pv0 : Nat → List V → Hp → Prop := fun i ys H' => Same H H' ∧ ∃ fs : List Int, ys = intV fs ∧ fs.length ≤ i ∧ ∀ x ∈ fs, 0 ≤ x ∧ x < n ∧ V.int x ∉ kvs.map (·.2)
    refine rng2_comp (lo := (k : Int) + 1) (hi := n) (by omega) (by omega) (by omega) Pv0 ⟨fun _ _ e => e, [], rfl, by simp, by simp⟩ ?_ ?_ ?_
    · rintro i ys H' hi ⟨_, fs, rfl, hf, _⟩
      rw [intV_len]; exact sl64 (by omega)
    · rintro i ys H' hi ⟨s1, fs, rfl, hf, hr⟩
      have e1 : (k : Int) + 1 + i = ((k + 1 + i : Nat) : Int) := by omega
      rw [e1]
      have hsa' := s1 _ _ hsa
      have hhb' := s1 _ _ hhb
      walk_at "step"
      refine v_ixL (SqL.of hsa') (atI_nat (strV_at (by omega))) ?_
      walk_at "step"
      refine ⟨sl64 (by simp), fun t ht => ?_⟩
      refine .inl (v_in (xs := strV [("plain" : Str), ("frame" : Str)]) (.inr (SqT.of upd_same)) rfl (flat_strV _) ?_)
      rw [inV_strV]
      walk_at "step"
      have s2 := Same.tr s1 (Same.new ht (.tup (strV [("plain" : Str), ("frame" : Str)])))
      have no : ∃ fs' : List Int, intV fs = intV fs' ∧ fs'.length ≤ i + 1 ∧ ∀ x ∈ fs', 0 ≤ x ∧ x < n ∧ V.int x ∉ kvs.map (·.2) := ⟨fs, rfl, by omega, hr⟩
      by_cases hin : ss[k + 1 + i] ∈ [("plain" : Str), ("frame" : Str)]
      · rw [decide_eq_true hin]; refine iteT ?_
        walk_at "step"
        obtain ⟨js, ej⟩ := hst_ints hh.hst
        refine ⟨_, hb, kvs, js, rfl, rfl, by rw [upd_ne (ne_free hhb' ht)]; exact hhb', ej, ?_⟩
        generalize hcc : (if true = true then !decide (((k + 1 + i : Nat) : Int) ∈ js) else decide (((k + 1 + i : Nat) : Int) ∈ js)) = c
        walk_at "step"
        cases c with
        | true =>
          refine iteT ?_
          walk_at "step"
          refine ⟨s2, fs ++ [((k + 1 + i : Nat) : Int)], intV_app _ _, by simp; omega, fun x hx => ?_⟩
          rcases List.mem_append.mp hx with h | h
          · exact hr x h
          · rw [List.mem_singleton.mp h]
            refine ⟨by omega, by omega, ?_⟩
            rw [ej]
            intro hm
            obtain ⟨y, hy, e⟩ := List.mem_map.mp hm
            injection e with e
            rw [if_pos rfl] at hcc
            rw [← e, decide_eq_true hy] at hcc
            cases hcc
        | false =>
          refine iteF ?_
          exact ⟨s2, no⟩
      · rw [decide_eq_false hin]; refine iteF ?_
        refine iteF ?_
        exact ⟨s2, no⟩
    · rintro ys H' ⟨s1, fs, rfl, hf, hr⟩ p hp
      walk_at "step"
      have s2 : Same H (upd H' p (.lst (intV fs))) := Same.tr s1 (Same.new hp _)
      refine ⟨sl64 (by simp), fun e he => ?_⟩
      have hp2 : (upd (upd H' p (.lst (intV fs))) e (.lst [])) p = some (.lst (intV fs)) := by rw [upd_ne (ne_free upd_same he)]; exact upd_same
      refine v_eqE (ds := intD fs) (dv_list.mpr ⟨p, _, rfl, SqL.of hp2, dvs_intD.mpr rfl⟩) upd_same ?_
      have s3 : Same H (upd (upd H' p (.lst (intV fs))) e (.lst [])) := Same.tr s2 (Same.new he _)
      generalize (upd (upd H' p (.lst (intV fs))) e (.lst [])) = H3 at *
      have hsa3 := s3 _ _ hsa
      have hhb3 := s3 _ _ hhb
      have dk3 := dk.same s3
      walk_at "step"
      cases fs with
      | nil =>
        refine iteT ?_
        walk_at "step"
        refine ⟨sl64 (by simp), fun t ht => ?_⟩
        walk_at "step"
        have hhb4 : (upd H3 t (.lst [.str ("room" : Str), .str ("plain" : Str)])) hb = some (.dK kvs) := by rw [upd_ne (ne_free hhb3 ht)]; exact hhb3
        obtain ⟨js, ej⟩ := hst_ints hh.hst
        refine ⟨_, hb, kvs, js, rfl, rfl, hhb4, ej, ?_⟩
        generalize (if false = true then !decide ((k : Int) ∈ js) else decide ((k : Int) ∈ js)) = c
        walk_at "step"
        have s4 := Same.tr s3 (Same.new ht (.lst [.str ("room" : Str), .str ("plain" : Str)]))
        have ht4 : (upd H3 t (.lst [.str ("room" : Str), .str ("plain" : Str)])) t = some (.lst [.str ("room" : Str), .str ("plain" : Str)]) := upd_same
        generalize (upd H3 t (.lst [.str ("room" : Str), .str ("plain" : Str)])) = H4 at *
        refine .inr ⟨c, rfl, ?_⟩
        have fin : ∀ x : Str, x.length ≤ 8 ∧ x ≠ ("" : Str) → rSetA (.ref sa) (.int k) (.str x) H4 (fun H1 => D.nx [some (.ref d), some (.int n), some (.ref kd), some (.ref sa), some (.ref hb), some (.int k), some (.ref p)] H1) := fun x hx => by
          refine .inl (v_setL (s4 _ _ hsa) (j := k) (by unfold ixN; rw [if_pos (by omega), if_pos (by rw [strV_len]; omega)]; simp) ?_)
          have es : (strV ss).set k (.str x) = strV (ss.set k x) := by unfold strV; rw [List.map_set]
          rw [es]
          refine q _ (ss.set k x) kvs _ (fun b o e n => ?_) ((dk.same s4).put nsa _) upd_same (by rw [List.length_set]; exact hl) (fun s hs => ?_) (by rw [upd_ne (Ne.symm nsh)]; exact s4 _ _ hhb) (hh.set x) (by omega)
          · rw [upd_ne (fun z => n (by simp [z]))]; exact s4 _ _ e
          · rcases List.mem_or_eq_of_mem_set hs with h | h
            · exact hss s h
            · rw [h]; exact hx
        cases c with
        | true =>
          refine v_ixL (SqL.of ht4) (v := .str ("plain" : Str)) (atI_nat (j := 1) rfl) ?_
          walk_at "step"
          exact fin _ (by decide)
        | false =>
          refine v_ixL (SqL.of ht4) (v := .str ("room" : Str)) (atI_nat (j := 0) rfl) ?_
          walk_at "step"
          exact fin _ (by decide)
      | cons f0 fr =>
        refine iteF ?_
        walk_at "step"
        refine v_lenQ (.inl (SqL.of hp2)) ?_
        rw [intV_len]
        walk_at "step"
        refine ⟨d, ((f0 :: fr).length : Int), rfl, by rw [List.length_cons]; omega, by omega, dk3, fun m H5 m0 m1 mv => ?_⟩
        walk_at "step"
        have np : p ≠ d := dk.ne (none_of s1 hp)
        have hm : m.toNat < (f0 :: fr).length := by omega
        refine v_ixL (SqL.of (mv.at hp2 np)) (v := .int (f0 :: fr)[m.toNat]) (ixI m0 (intV_at hm)) ?_
        walk_at "step"
        have hr' := hr _ (List.getElem_mem hm)
        refine .inr ⟨hb, _, rfl, DPut.k (k := .inl (k : Int)) (mv.at hhb3 nhb) (by rw [sizeLine_eq]; omega), ?_⟩
        refine q _ ss _ _ (fun b o e n => ?_) (mv.dk.put nhb _) (by rw [upd_ne nsh]; exact mv.at hsa3 nsa) hl hss upd_same (hh.put hr'.1 hr'.2.1 (by rw [List.getElem?_eq_getElem (by omega), ef]) hr'.2.2) ?_
        · rw [upd_ne (fun z => n (by simp [z]))]; exact mv.at (s3 _ _ e) (fun z => n (by simp [z]))
        · have := length_putK kvs (.inl (k : Int)) (V.int (f0 :: fr)[m.toNat]); omega
  · rw [decide_eq_false ef]; refine iteF ?_
    exact q H ss kvs _ (fun _ _ e _ => e) dk hsa hl hss hhb hh.mono (by omega)
@[reducible] def T__law_sorts_4 (K : PySem.W.Frag) : TS :=
 (tSeq (tFor (iRng1 (tCons (tVar 1) tNil)) (gName 5)
 (sortT K))
 (tRet (tTup (tCons (tVar 3) (tCons (tVar 4) tNil)))))
@[reducible] def T__law_sorts_5 (K : PySem.W.Frag) : TS :=
 (tSeq (tAsg (tComp [some 2, some 0, none] (iRng1 (tCons (tVar 1) tNil)) (gName 2) tTT (tOp (rIxA K) (tVar 0) (tCall (sp__law_draw K) [] E0 (tCons (tVar 1) (tCons (tC (.int 8)) tNil))))) (gName 3))
 (tSeq (tAsg tDNewK (gName 4))
 (T__law_sorts_4 K)))
def sp__law_sorts (K : PySem.W.Frag) : Sp := fun vs H Q _ => ∃ (d : Addr) (n : Nat), vs = [.ref d, .int n] ∧ 1 ≤ n ∧ n ≤ 16 ∧ Dk H d ∧ ∀ (r sa hb : Addr) (ss : List Str) (kvs : List (Key × V)) (H' : Hp), Mv d H H' → H' r = some (.tup [.ref sa, .ref hb]) → H' sa = some (.lst (strV ss)) → sa ≠ d → ss.length = n → (∀ s ∈ ss, s.length ≤ 8 ∧ s ≠ ("" : Str)) → H' hb = some (.dK kvs) → HS n ss n kvs → Q (.ref r) H'
theorem len__law_sorts (K : PySem.W.Frag) : ∀ vs H Q E, sp__law_sorts K vs H Q E → vs.length = ["_law_deck", "_law_count"].length := by rintro vs H Q E ⟨d, n, rfl, _⟩; rfl
def R__law_sorts (K : PySem.W.Frag) : TS :=
 (tSeq (tAsg (tLst (tStrs [("plain" : Str), ("anew" : Str), ("plain" : Str), ("frame" : Str), ("room" : Str), ("bare" : Str), ("plain" : Str), ("anew" : Str)])) (gName 2))
 (T__law_sorts_5 K))
theorem rd__law_sorts (h : sp__law_sorts K vs H Q E) : R__law_sorts K { nx := fun _ H' => Q .non H', rt := Q } (start ["_law_deck", "_law_count", "_law_kinds", "_law_sorts_here", "_law_hosts", "_law_k", "_law_free"] vs) H := by
  obtain ⟨d, n, rfl, h1, h2, dk, q⟩ := h
  show R__law_sorts K _ [some (.ref d), some (.int n), none, none, none, none, none] H
  unfold R__law_sorts
  walk_at "step"
  refine ⟨sl64 (by simp [strV]), fun kd hkd => ?_⟩
  walk_at "step"
  generalize hks : [("plain" : Str), ("anew" : Str), ("plain" : Str), ("frame" : Str), ("room" : Str), ("bare" : Str), ("plain" : Str), ("anew" : Str)] = ks
  have hkl : ks.length = 8 := by rw [← hks]; rfl
  have hk8 : ∀ s ∈ ks, s.length ≤ 8 ∧ s ≠ ("" : Str) := by rw [← hks]; decide
  have nkd := dk.ne hkd
  have m0 : Mv d H (upd H kd (.lst (strV ks))) := Mv.new (Mv.refl dk) hkd _
  have hk0 : (upd H kd (.lst (strV ks))) kd = some (.lst (strV ks)) := upd_same
  generalize upd H kd (.lst (strV ks)) = H1 at *
  let Pv1 : Nat → List V → Hp → Prop := fun i ys H' => Mv d H1 H' ∧ ∃ ss : List Str, ys = strV ss ∧ ss.length = i ∧ ∀ s ∈ ss, s.length ≤ 8 ∧ s ≠ ("" : Str)
  refine rng1_comp (by omega) (by omega) Pv1 ⟨Mv.refl m0.dk, [], rfl, rfl, by simp⟩ ?_ ?_ ?_
  · rintro i ys H' hi ⟨_, ss, rfl, hl, _⟩
    rw [strV_len]; exact sl64 (by omega)
  · rintro i ys H' hi ⟨mv, ss, rfl, hl, hs⟩
    walk_at "step"
    refine ⟨d, 8, rfl, by decide, by decide, mv.dk, fun m H2 a0 a1 mv2 => ?_⟩
    have hm : m.toNat < ks.length := by omega
    refine v_ixL (SqL.of (mv2.at (mv.at hk0 nkd) nkd)) (ixI a0 (strV_at hm)) ?_
    refine ⟨mv.tr mv2, ss ++ [ks[m.toNat]], strV_app _ _, by simp [hl], fun s hs' => ?_⟩
    rcases List.mem_append.mp hs' with h | h
    · exact hs s h
    · rw [List.mem_singleton.mp h]; exact hk8 _ (List.getElem_mem hm)
  · rintro ys H' ⟨mv, ss, rfl, hl, hs⟩ sa hsa
    walk_at "step"
    intro hb hhb
    walk_at "step"
    have mvA : Mv d H (upd (upd H' sa (.lst (strV ss))) hb (.dK [])) := ((m0.tr mv).new hsa _).new hhb _
    have nsa : sa ≠ d := (m0.tr mv).dk.ne hsa
    have nsa0 : H sa = none := none_mv (m0.tr mv) dk hsa
    have nhb0 : H hb = none := none_mv ((m0.tr mv).new hsa _) dk hhb
    have hA1 : (upd (upd H' sa (.lst (strV ss))) hb (.dK [])) sa = some (.lst (strV ss)) := by rw [upd_ne (ne_free upd_same hhb)]; exact upd_same
    have hA2 : (upd (upd H' sa (.lst (strV ss))) hb (.dK [])) hb = some (.dK []) := upd_same
    generalize (upd (upd H' sa (.lst (strV ss))) hb (.dK [])) = HA at *
    let Pv2 : Nat → St → Hp → Prop := fun i σ H' => ∃ (ss : List Str) (kvs : List (Key × V)) (a5 a6 : Option V), σ = [some (.ref d), some (.int n), some (.ref kd), some (.ref sa), some (.ref hb), a5, a6] ∧ Mv d H H' ∧ H' sa = some (.lst (strV ss)) ∧ ss.length = n ∧ (∀ s ∈ ss, s.length ≤ 8 ∧ s ≠ ("" : Str)) ∧ H' hb = some (.dK kvs) ∧ HS n ss i kvs ∧ kvs.length ≤ i
    refine rng1_for (by omega) (by omega) Pv2 ⟨ss, [], _, _, rfl, mvA, hA1, by omega, hs, hA2, ⟨(fun _ h => by cases h), List.nodup_nil⟩, by simp⟩ ?_ ?_
    · rintro i σ H' hi ⟨ss, kvs, a5, a6, rfl, mv, b1, b2, b3, b4, b5, b6⟩
      walk_at "step"
      refine sort_tail (by omega) h2 mv.dk b1 b2 b3 nsa b4 b5 b6 fun H2 ss kvs a6 bt dk2 c1 c2 c3 c4 c5 c6 => ?_
      refine ⟨ss, kvs, _, _, rfl, ⟨fun c o e nc => ?_, dk2⟩, c1, c2, c3, c4, c5, c6⟩
      refine bt c o (mv.but c o e nc) ?_
      simp at nc ⊢
      exact ⟨nc, ne_free e nsa0, ne_free e nhb0⟩
    · rintro σ H' ⟨ss, kvs, a5, a6, rfl, mv, b1, b2, b3, b4, b5, b6⟩
      walk_at "step"
      refine ⟨sl64 (by simp), fun r hr => ?_⟩
      exact q r sa hb ss kvs _ (mv.new hr _) upd_same (by rw [upd_ne (ne_free b1 hr)]; exact b1) nsa b2 b3 (by rw [upd_ne (ne_free b4 hr)]; exact b4) (by rw [show ((n : Int)).toNat = n by omega] at b5; exact b5)
@[reducible] def T__law_some_0 (K : PySem.W.Frag) : TS :=
 (tIfS (tTest (tOp (rEqA K) (tCall (sp__law_draw K) [] E0 (tCons (tVar 0) (tCons (tC (.int 4)) tNil))) (tC (.int 1))))
 (tDrop (tBM K "list" rAppend (tVar 2) (tCons (tVar 3) tNil))) tNext)
@[reducible] def T__law_some_1 (K : PySem.W.Frag) : TS :=
 (tSeq (tFor (iAny K (tVar 1)) (gName 3)
 (T__law_some_0 K))
 (tRet (tCB (rTupleA K) (tCons (tCB (rSortedS K) (tCons (tVar 2) tNil)) tNil))))
def sp__law_some (K : PySem.W.Frag) : Sp := fun vs H Q _ => ∃ (d a : Addr) (xs : List Str), vs = [.ref d, .ref a] ∧ Dk H d ∧ H a = some (.lst (strV xs)) ∧ a ≠ d ∧ xs.length ≤ 40 ∧ ∀ (t : Addr) (ys : List Str) (H' : Hp), Mv d H H' → H' t = some (.tup (strV ys)) → (∀ y ∈ ys, y ∈ xs) → ys.length ≤ xs.length → Q (.ref t) H'
theorem len__law_some (K : PySem.W.Frag) : ∀ vs H Q E, sp__law_some K vs H Q E → vs.length = ["_law_deck", "_law_names"].length := by rintro vs H Q E ⟨d, a, xs, rfl, _⟩; rfl
def R__law_some (K : PySem.W.Frag) : TS :=
 (tSeq (tAsg (tLst tNil) (gName 2))
 (T__law_some_1 K))
theorem rd__law_some (h : sp__law_some K vs H Q E) : R__law_some K { nx := fun _ H' => Q .non H', rt := Q } (start ["_law_deck", "_law_names", "_law_some_here", "_law_name_here"] vs) H := by
  obtain ⟨d, a, xs, rfl, dk, ha, na, hx, q⟩ := h
  show R__law_some K _ [some (.ref d), some (.ref a), none, none] H
  unfold R__law_some
  walk_at "step"
  refine ⟨sl64 (by simp), fun p hp => ?_⟩
  walk_at "step"
  have np : p ≠ d := dk.ne hp
  have npa : a ≠ p := ne_free ha hp
  refine any_forL (xs := strV xs) (SqL.of (by rw [upd_ne npa]; exact ha)) (fun i σ H' => ∃ (w : Option V) (ys : List Str), σ = [some (.ref d), some (.ref a), some (.ref p), w] ∧ Mv d H H' ∧ H' p = some (.lst (strV ys)) ∧ (∀ y ∈ ys, y ∈ xs) ∧ ys.length ≤ i) ⟨_, [], rfl, Mv.new (Mv.refl dk) hp _, upd_same, by simp, by simp⟩ ?_ ?_ ?_
  · rintro i σ H' hi ⟨w, ys, rfl, mv, _⟩
    exact SqL.of (mv.at ha na)
  · rintro i x σ H' hx' ⟨w, ys, rfl, mv, h1, h2, h3⟩
    obtain ⟨y, hy, rfl⟩ := strV_get hx'
    have hi : i < xs.length := (List.getElem?_eq_some_iff.mp hy).1
    walk_at "step"
    refine ⟨d, 4, rfl, by decide, by decide, mv.dk, fun m H2 a0 a1 mv2 => ?_⟩
    walk_at "step"
    have mv3 := mv.tr mv2
    have h4 := mv2.at h1 np
    by_cases e : m = 1
    · rw [decide_eq_true e]; refine iteT ?_
      walk_at "step"
      refine ⟨.inl ⟨rfl, _, SqL.of h4⟩, ?_⟩
      walk_at "step"
      refine v_append h4 (by rw [strV_len, sizeLine_eq]; omega) ?_
      refine ⟨_, ys ++ [y], rfl, mv3.put dk hp _, by rw [upd_same, strV_app], fun z hz => ?_, by simp; omega⟩
      rcases List.mem_append.mp hz with h | h
      · exact h2 z h
      · rw [List.mem_singleton.mp h]; exact List.mem_of_getElem? hy
    · rw [decide_eq_false e]; refine iteF ?_
      exact ⟨_, ys, rfl, mv3, h4, h2, by omega⟩
  · rintro σ H' ⟨w, ys, rfl, mv, h1, h2, h3⟩
    rw [strV_len] at h3
    walk_at "step"
    refine ⟨p, ys, rfl, SqL.of h1, by omega, fun l ys' hperm _ hl => ?_⟩
    walk_at "step"
    refine ⟨l, _, rfl, .inl ⟨SqL.of upd_same, fun t ht => ?_⟩⟩
    exact q t ys' _ ((mv.new hl _).new ht _) upd_same (fun y hy => h2 y (hperm.mem_iff.mp hy)) (by rw [hperm.length_eq]; exact h3)
end My
namespace My
open PySem L2
variable {K : PySem.W.Frag} {vs : List V} {H : Hp} {Q : VK} {E : XK}
@[reducible] def T__law_book_0 (K : PySem.W.Frag) : TS :=
 (tDrop (tBM K "list" rInsert (tVar 9) (tCons (tCall (sp__law_draw K) [] E0 (tCons (tVar 0) (tCons (tOp (rAddA K) (tCB (rLenA K) (tCons (tVar 9) tNil)) (tC (.int 1))) tNil))) (tCons (tVar 13) tNil))))
def bookA (K : PySem.W.Frag) : TS :=
 (tSeq (tAsg (tTup (tCons (tOp (rIxA K) (tVar 6) (tVar 10)) (tCons (tOp (rIxA K) (tVar 4) (tVar 10)) (tCons (tVar 12) (tCons (tVar 11) (tCons (tCall (sp__law_some K) [] E0 (tCons (tVar 0) (tCons (tComp [some 6, none] (iAny K (tVar 7)) (gName 1) tTT (tOp (rIxA K) (tVar 0) (tVar 1))) tNil))) tNil)))))) (gName 13))
 (T__law_book_0 K))
@[reducible] def T__law_book_2 (K : PySem.W.Frag) : TS :=
 (tSeq (tIfS (tTest (tOp (rInB K false) (tVar 10) (tVar 5)))
 (tAsg (tOp (rIxA K) (tVar 6) (tDGet (tVar 5) (tVar 10))) (gName 12)) tNext)
 (bookA K))
def bookB (K : PySem.W.Frag) : TS :=
 (tSeq (tAsg (tC (.str ("" : Str))) (gName 12))
 (T__law_book_2 K))
def hF (c : Int) (kvs : List (Key × V)) (k : Nat) : Str := match valV kvs (.inl (k : Int)) with | some (.int j) => nameF c j | _ => ("" : Str)
def Rwk (c : Int) (ss : List Str) (kvs : List (Key × V)) (i : Nat) (rs : List Row) : Prop := ∃ ks : List Nat, ks.Nodup ∧ (∀ k ∈ ks, k < i) ∧ rs.map (·.name) = ks.map (fun k : Nat => nameF c (k : Int)) ∧ rs.map (·.sort) = ks.map (fun k => ss.getD k ("" : Str)) ∧ rs.map (·.host) = ks.map (hF c kvs)
theorem Rwk.ins {c : Int} {ss : List Str} {kvs : List (Key × V)} {k : Nat} {rs : List Row} (h : Rwk c ss kvs k rs) {r : Row} (x : Nat) (hn : r.name = nameF c (k : Int)) (hs : r.sort = ss.getD k ("" : Str)) (hh : r.host = hF c kvs k) : Rwk c ss kvs (k + 1) (insAt rs x r) := by
  obtain ⟨ks, h1, h2, h3, h4, h5⟩ := h
  have hp : (insAt ks x k).Perm (k :: ks) := by
    unfold insAt
    have := (List.perm_middle (a := k) (l₁ := ks.take x) (l₂ := ks.drop x))
    rwa [List.take_append_drop] at this
  refine ⟨insAt ks x k, ?_, fun y hy => ?_, ?_, ?_, ?_⟩
  · rw [hp.nodup_iff, List.nodup_cons]
    exact ⟨fun z => by have := h2 k z; omega, h1⟩
  · rcases insAt_mem hy with rfl | h
    · omega
    · have := h2 y h; omega
  · rw [insAt_map, insAt_map, h3, hn]
  · rw [insAt_map, insAt_map, h4, hs]
  · rw [insAt_map, insAt_map, h5, hh]
theorem HS.val {n i : Nat} {ss : List Str} {kvs : List (Key × V)} (h : HS n ss i kvs) {k : Nat} {v : V} (e : valV kvs (.inl (k : Int)) = some v) : ∃ j : Int, v = .int j ∧ 0 ≤ j ∧ j < n ∧ ss[k]? = some ("frame" : Str) ∧ ((.inl (k : Int), .int j) : Key × V) ∈ kvs := by
  unfold valV at e
  obtain ⟨kv, hf, rfl⟩ := Option.map_eq_some_iff.mp e
  have hm := List.mem_of_find?_eq_some hf
  obtain ⟨k', j, rfl, h0, h1, h2, h3⟩ := h.1 kv hm
  have := List.find?_some hf
  have : k' = k := by simp at this; omega
  subst this
  exact ⟨j, rfl, h0, h1, h3, hm⟩
theorem nodup_snd {kvs : List (Key × V)} (h : (kvs.map (·.2)).Nodup) {a b : Key × V} (ha : a ∈ kvs) (hb : b ∈ kvs) (e : a.2 = b.2) : a = b := by
  induction kvs with
  | nil => cases ha
  | cons x l ih =>
    rw [List.map_cons, List.nodup_cons] at h
    rcases List.mem_cons.mp ha with rfl | ha' <;> rcases List.mem_cons.mp hb with rfl | hb'
    · rfl
    · exact absurd (e ▸ List.mem_map_of_mem hb') h.1
    · exact absurd (e ▸ List.mem_map_of_mem ha') h.1
    · exact ih h.2 ha' hb'
theorem hF_inj {c : Int} {n i : Nat} {ss : List Str} {kvs : List (Key × V)} (h : HS n ss i kvs) (n8 : n ≤ 8) {a b : Nat} (e : hF c kvs a = hF c kvs b) (hne : hF c kvs a ≠ ("" : Str)) : a = b := by
  have key : ∀ k, hF c kvs k ≠ ("" : Str) → ∃ j : Int, hF c kvs k = nameF c j ∧ 0 ≤ j ∧ j < n ∧ ((.inl (k : Int), .int j) : Key × V) ∈ kvs := by
    intro k hk
    unfold hF at hk ⊢
    cases ev : valV kvs (.inl (k : Int)) with
    | none => rw [ev] at hk; exact absurd rfl hk
    | some v =>
      obtain ⟨j, rfl, h0, h1, _, hm⟩ := h.val ev
      exact ⟨j, rfl, h0, h1, hm⟩
  obtain ⟨j1, e1, a0, a1, m1⟩ := key a hne
  obtain ⟨j2, e2, b0, b1, m2⟩ := key b (e ▸ hne)
  have : j1 = j2 := nameF_inj a0 (by omega) b0 (by omega) (by rw [← e1, ← e2]; exact e)
  subst this
  have := nodup_snd h.2 m1 m2 rfl
  injection this with h1 _
  have := Sum.inl.inj h1
  omega
theorem filt_one {α : Type} [DecidableEq α] (f : Nat → α) (x : α) : ∀ ks : List Nat, ks.Nodup → (∀ a ∈ ks, ∀ b ∈ ks, f a = x → f b = x → a = b) → ((ks.map f).filter fun y => decide (y = x)).length ≤ 1
  | [], _, _ => by simp
  | k :: ks, h, hi => by
    rw [List.nodup_cons] at h
    rw [List.map_cons, List.filter_cons]
    by_cases e : f k = x
    · rw [if_pos (decide_eq_true e), List.length_cons]
      have : ((ks.map f).filter fun y => decide (y = x)) = [] := by
        rw [List.filter_eq_nil_iff]
        intro y hy
        obtain ⟨k', hk', rfl⟩ := List.mem_map.mp hy
        intro z
        have z := of_decide_eq_true z
        exact h.1 (hi k (by simp) k' (by simp [hk']) e z ▸ hk')
      rw [this]; simp
    · rw [if_neg (by simpa using e)]
      exact filt_one f x ks h.2 fun a ha b hb => hi a (by simp [ha]) b (by simp [hb])
theorem Rwk.bks {c : Int} {n : Nat} {ss : List Str} {kvs : List (Key × V)} {rs : List Row} (h : Rwk c ss kvs n rs) (hs : HS n ss n kvs) (hss : ∀ s ∈ ss, s.length ≤ 8 ∧ s ≠ ("" : Str)) (hl : ss.length = n) (n8 : n ≤ 8) : BkS rs := by
  obtain ⟨ks, h1, h2, h3, h4, h5⟩ := h
  have at' : ∀ r ∈ rs, ∃ k, k < n ∧ r.name = nameF c (k : Int) ∧ r.sort = ss.getD k ("" : Str) ∧ r.host = hF c kvs k := by
    intro r hr
    obtain ⟨i, hi⟩ := List.mem_iff_getElem?.mp hr
    have a1 := congrArg (fun l => l[i]?) h3
    have a2 := congrArg (fun l => l[i]?) h4
    have a3 := congrArg (fun l => l[i]?) h5
    simp only [List.getElem?_map, hi, Option.map_some] at a1 a2 a3
    cases ek : ks[i]? with
    | none => rw [ek] at a1; cases a1
    | some k =>
      rw [ek] at a1 a2 a3
      exact ⟨k, h2 k (List.mem_of_getElem? ek), Option.some.inj a1, Option.some.inj a2, Option.some.inj a3⟩
  refine ⟨fun r hr => ?_, fun r hr => ?_, fun r hr hf => ?_, fun x hx => ?_⟩
  · obtain ⟨k, _, e, _⟩ := at' r hr
    rw [e]; exact nameF_ne c _
  · obtain ⟨k, hk, _, e, _⟩ := at' r hr
    rw [e]
    have : ss.getD k ("" : Str) = ss[k] := by rw [List.getD_eq_getElem?_getD, List.getElem?_eq_getElem (by omega)]; rfl
    rw [this]; exact (hss _ (List.getElem_mem _)).2
  · obtain ⟨k, hk, _, e, e2⟩ := at' r hr
    rw [e2]
    unfold hF
    cases ev : valV kvs (.inl (k : Int)) with
    | none => rfl
    | some v =>
      obtain ⟨j, rfl, _, _, h7, _⟩ := hs.val ev
      exfalso
      apply hf
      rw [e, List.getD_eq_getElem?_getD, h7]; rfl
  · have e : (rs.filter fun r => decide (r.host = x)).length = ((rs.map (·.host)).filter fun y => decide (y = x)).length := by
      rw [List.filter_map, List.length_map]; rfl
    rw [e, h5]
    exact filt_one (hF c kvs) x ks h1 fun a _ b _ ea eb => hF_inj hs n8 (ea.trans eb.symm) (by rw [ea]; exact hx)
section
variable {D : Ends} {d sa hb nm sf my bk : Addr} {c m : Int} {n k : Nat} {ss names may : List Str} {soft : List Int} {kvs : List (Key × V)} {us : List V} {rs : List Row} {a11 a12 a13 : Option V}
structure BkA (c : Int) (H : Hp) (d sa hb nm sf my bk : Addr) (n : Nat) (ss names may : List Str) (soft : List Int) (kvs : List (Key × V)) : Prop where
  n16 : n ≤ 16
  hsa : H sa = some (.lst (strV ss))
  lsa : ss.length = n
  hhb : H hb = some (.dK kvs)
  hst : HS n ss n kvs
  hnm : H nm = some (.lst (strV names))
  lnm : names.length = n
  nle : names = (List.range n).map (fun k : Nat => nameF c (k : Int))
  hsf : H sf = some (.lst (intV soft))
  sfl : soft.length ≤ n
  sfr : ∀ x ∈ soft, 0 ≤ x ∧ x < n
  hmy : H my = some (.lst (strV may))
  mle : may.length ≤ n
  n1 : sa ∉ [d, bk]
  n2 : hb ∉ [d, bk]
  n3 : nm ∉ [d, bk]
  n4 : sf ∉ [d, bk]
  n5 : my ∉ [d, bk]
theorem BkA.but {H' : Hp} (B : BkA c H d sa hb nm sf my bk n ss names may soft kvs) (t : But [d, bk] H H') : BkA c H' d sa hb nm sf my bk n ss names may soft kvs :=
  { B with hsa := t _ _ B.hsa B.n1, hhb := t _ _ B.hhb B.n2, hnm := t _ _ B.hnm B.n3, hsf := t _ _ B.hsf B.n4, hmy := t _ _ B.hmy B.n5 }
theorem nm_at (B : BkA c H d sa hb nm sf my bk n ss names may soft kvs) (hk : k < n) {h : k < names.length} : names[k] = nameF c (k : Int) := by
  have := B.nle
  subst this
  simp
theorem st_at (B : BkA c H d sa hb nm sf my bk n ss names may soft kvs) (hk : k < n) {h : k < ss.length} : ss[k] = ss.getD k ("" : Str) := by
  rw [List.getD_eq_getElem?_getD, List.getElem?_eq_getElem h]; rfl
theorem book_A {sv : V} {host : Str} {sh : List Str} (B : BkA c H d sa hb nm sf my bk n ss names may soft kvs) (hk : k < n) (dk : Dk H d) (nbk : bk ≠ d) (hbk : H bk = some (.lst us)) (dvs : Dvs K H (rs.map Row.da) us) (hrl : rs.length = k) (hro : Rwk c ss kvs k rs) (hho : host = hF c kvs k) (hsv : Dv K H (.tuple (sDa sh)) sv)
    (q : ∀ (H' : Hp) (us : List V) (rs : List Row) (a13 : Option V), But [d, bk] H H' → Dk H' d → H' bk = some (.lst us) → Dvs K H' (rs.map Row.da) us → rs.length = k + 1 → Rwk c ss kvs (k + 1) rs → D.nx [some (.ref d), some (.int c), some (.int m), some (.int n), some (.ref sa), some (.ref hb), some (.ref nm), some (.ref sf), some (.ref my), some (.ref bk), some (.int k), some sv, some (.str host), a13] H') :
    bookA K D [some (.ref d), some (.int c), some (.int m), some (.int n), some (.ref sa), some (.ref hb), some (.ref nm), some (.ref sf), some (.ref my), some (.ref bk), some (.int k), some sv, some (.str host), a13] H := by
  have n16 := B.n16
  have lnm := B.lnm
  have lsa := B.lsa
  have hul : us.length = k := by have := dvs.length; rw [List.length_map] at this; omega
  unfold bookA
  walk_at "step"
  refine v_ixL (SqL.of B.hnm) (atI_nat (strV_at (by omega))) ?_
  walk_at "step"
  refine v_ixL (SqL.of B.hsa) (atI_nat (strV_at (by omega))) ?_
  walk_at "step"
  let Pv0 : Nat → List V → Hp → Prop := fun i ys H' => H' = H ∧ ∃ zs : List Str, ys = strV zs ∧ zs.length = i
  refine any_compL (xs := intV soft) (SqL.of B.hsf) Pv0 ⟨rfl, [], rfl, rfl⟩ ?_ ?_ ?_ ?_
  · rintro i ys H' hi ⟨rfl, zs, rfl, hz⟩
    rw [intV_len] at hi
    have := B.sfl
    rw [strV_len]; exact sl64 (by omega)
  · rintro i ys H' hi ⟨rfl, _⟩
    exact SqL.of B.hsf
  · rintro i x ys H' hx ⟨rfl, zs, rfl, hz⟩
    unfold intV at hx
    rw [List.getElem?_map] at hx
    obtain ⟨j, hj, rfl⟩ := Option.map_eq_some_iff.mp hx
    obtain ⟨j0, j1⟩ := B.sfr j (List.mem_of_getElem? hj)
    walk_at "step"
    refine v_ixL (SqL.of B.hnm) (ixI j0 (strV_at (by omega))) ?_
    exact ⟨rfl, zs ++ [_], strV_app _ _, by simp [hz]⟩
  · rintro ys H' ⟨rfl, zs, rfl, hz⟩ p hp
    rw [intV_len] at hz
    walk_at "step"
    have s1 : Same H' (upd H' p (.lst (strV zs))) := Same.new hp _
    have hsfl := B.sfl
    refine ⟨d, p, zs, rfl, dk.same s1, upd_same, dk.ne hp, by omega, fun t ys H2 mv ht hmem hle => ?_⟩
    walk_at "step"
    have bt2 : But [d, bk] H' H2 := But.tr (Same.two d bk s1) (Mv.two bk mv)
    have hbk2 : H2 bk = some (.lst us) := mv.at (s1 _ _ hbk) nbk
    obtain ⟨dl, hdl⟩ := dk.lst
    have tk2 : TupK H' H2 := But.two bt2 hdl hbk
    have hsv2 := Dv.tupK tk2 _ _ (by rw [L2.fix]; exact fixs_map (f := PyData.str) (fun x => by rw [L2.fix]) sh) hsv
    have dvs2 := Dvs.tupK tk2 _ _ (fixs_map Row.fix rs) dvs
    refine ⟨sl64 (by simp), fun r hr => ?_⟩
    walk_at "step"
    have s3 : Same H2 (upd H2 r (.tup [.str names[k], .str ss[k], .str host, sv, .ref t])) := Same.new hr _
    have hbk3 := s3 _ _ hbk2
    have dk3 := mv.dk.same s3
    have bt3 : But [d, bk] H' (upd H2 r (.tup [.str names[k], .str ss[k], .str host, sv, .ref t])) := But.tr bt2 (Same.two d bk s3)
    have drow : Dv K (upd H2 r (.tup [.str names[k], .str ss[k], .str host, sv, .ref t])) (Row.da ⟨names[k], ss[k], host, sh, ys⟩) (.ref r) := by
      unfold Row.da
      refine dv_tuple.mpr ⟨r, _, rfl, SqT.of upd_same, dvs_cons (dv_str.mpr rfl) (dvs_cons (dv_str.mpr rfl) (dvs_cons (dv_str.mpr rfl) (dvs_cons (Dv.same s3 _ _ hsv2) (dvs_cons ?_ dvs_nil))))⟩
      exact dv_tuple.mpr ⟨t, _, rfl, SqT.of (s3 _ _ ht), dvs_sDa.mpr rfl⟩
    have dvs3 := Dvs.same s3 _ _ dvs2
    generalize (upd H2 r (.tup [.str names[k], .str ss[k], .str host, sv, .ref t])) = H3 at *
    refine ⟨.inl ⟨rfl, _, SqL.of hbk3⟩, ?_⟩
    walk_at "step"
    refine v_lenQ (.inl (SqL.of hbk3)) ?_
    walk_at "step"
    refine ⟨d, (us.length : Int) + 1, rfl, by omega, by omega, dk3, fun x H4 x0 x1 mv4 => ?_⟩
    walk_at "step"
    have hbk4 := mv4.at hbk3 nbk
    obtain ⟨dl3, hdl3⟩ := dk3.lst
    have tk4 : TupK H3 H4 := mv4.tupK dk3
    refine v_insert hbk4 x0 (by omega) (by rw [sizeLine_eq]; omega) ?_
    have hx : x.toNat ≤ us.length := by omega
    refine q _ _ (insAt rs x.toNat ⟨names[k], ss[k], host, sh, ys⟩) _ (But.tr (But.tr bt3 (Mv.two bk mv4)) (But.upd (by simp) _)) (mv4.dk.put nbk _) upd_same ?_ (by rw [insAt_len _ _ _ (by omega)]; omega) (hro.ins _ (nm_at B hk) (st_at B hk) hho)
    · rw [insAt_map]
      have tk5 : TupK H4 (upd H4 bk (.lst (insAt us x.toNat (.ref r)))) := tupK_lst hbk4
      refine ins_dvs (Dvs.tupK (tk4.trans tk5) _ _ (fixs_map Row.fix rs) dvs3) (Dv.tupK (tk4.trans tk5) _ _ (Row.fix _) drow) hx
theorem book_B {sv : V} {sh : List Str} (B : BkA c H d sa hb nm sf my bk n ss names may soft kvs) (hk : k < n) (dk : Dk H d) (nbk : bk ≠ d) (hbk : H bk = some (.lst us)) (dvs : Dvs K H (rs.map Row.da) us) (hrl : rs.length = k) (hro : Rwk c ss kvs k rs) (hsv : Dv K H (.tuple (sDa sh)) sv)
    (q : ∀ (H' : Hp) (us : List V) (rs : List Row) (a12 a13 : Option V), But [d, bk] H H' → Dk H' d → H' bk = some (.lst us) → Dvs K H' (rs.map Row.da) us → rs.length = k + 1 → Rwk c ss kvs (k + 1) rs → D.nx [some (.ref d), some (.int c), some (.int m), some (.int n), some (.ref sa), some (.ref hb), some (.ref nm), some (.ref sf), some (.ref my), some (.ref bk), some (.int k), some sv, a12, a13] H') :
    bookB K D [some (.ref d), some (.int c), some (.int m), some (.int n), some (.ref sa), some (.ref hb), some (.ref nm), some (.ref sf), some (.ref my), some (.ref bk), some (.int k), some sv, a12, a13] H := by
  have lnm := B.lnm
  unfold bookB
  walk_at "step"
  refine .inr ⟨hb, _, rfl, DGet.k (k := .inl (k : Int)) B.hhb, ?_⟩
  walk_at "step"
  cases e : valV kvs (.inl (k : Int)) with
  | none =>
    refine iteF ?_
    walk_at "step"
    exact book_A B hk dk nbk hbk dvs hrl hro (by unfold hF; rw [e]) hsv fun H' us rs a13 h1 h2 h3 h4 h5 h6 => q H' us rs _ a13 h1 h2 h3 h4 h5 h6
  | some v =>
    obtain ⟨j, rfl, j0, j1⟩ := hst_val B.hst.hst e
    refine iteT ?_
    walk_at "step"
    refine ⟨hb, _, rfl, by have := DGet.k (k := .inl (k : Int)) B.hhb; rw [e] at this; exact this, ?_⟩
    refine v_ixL (SqL.of B.hnm) (ixI j0 (strV_at (by omega))) ?_
    walk_at "step"
    exact book_A B hk dk nbk hbk dvs hrl hro (by unfold hF; rw [e, nm_at B (k := j.toNat) (by omega)]; show nameF c _ = nameF c j; rw [show ((j.toNat : Nat) : Int) = j by omega]) hsv fun H' us rs a13 h1 h2 h3 h4 h5 h6 => q H' us rs _ a13 h1 h2 h3 h4 h5 h6
end
@[reducible] def T__law_book_3 (K : PySem.W.Frag) : TS :=
 (tSeq (tIfS (tTest (tInV true (tVar 10) (tVar 5)))
 (tAsg (tCall (sp__law_some K) [] E0 (tCons (tVar 0) (tCons (tVar 8) tNil))) (gName 11)) tNext)
 (bookB K))
@[reducible] def T__law_book_4 (K : PySem.W.Frag) : TS :=
 (tSeq (tFor (iRng1 (tCons (tVar 3) tNil)) (gName 10)
 (tSeq (tAsg (tTup tNil) (gName 11))
 (T__law_book_3 K)))
 (tRet (tCB (rTupleA K) (tCons (tVar 9) tNil))))
@[reducible] def T__law_book_5 (K : PySem.W.Frag) : TS :=
 (tSeq (tAsg (tComp [some 6, some 5, none] (iAny K (tVar 7)) (gName 2) (tTest (tInV true (tVar 2) (tVar 1))) (tOp (rIxA K) (tVar 0) (tVar 2))) (gName 8))
 (tSeq (tAsg (tLst tNil) (gName 9))
 (T__law_book_4 K)))
@[reducible] def T__law_book_6 (K : PySem.W.Frag) : TS :=
 (tSeq (tAsg (tComp [some 4, none] (iRng1 (tCons (tVar 3) tNil)) (gName 1) (tTest (tOp (rInB K false) (tOp (rIxA K) (tVar 0) (tVar 1)) (tTup (tCons (tC (.str ("plain" : Str))) (tCons (tC (.str ("anew" : Str))) tNil))))) (tVar 1)) (gName 7))
 (T__law_book_5 K))
@[reducible] def T__law_book_7 (K : PySem.W.Frag) : TS :=
 (tSeq (tAsg (tComp [some 1, none] (iRng1 (tCons (tVar 3) tNil)) (gName 1) tTT (tCall (sp__law_name K) [] E0 (tCons (tVar 0) (tCons (tVar 1) tNil)))) (gName 6))
 (T__law_book_6 K))
@[reducible] def T__law_book_8 (K : PySem.W.Frag) : TS :=
 (tSeq (tAsg (tCall (sp__law_sorts K) [] E0 (tCons (tVar 0) (tCons (tVar 3) tNil))) (gTup K 2 (gCons (gName 4) (gCons (gName 5) gNil))))
 (T__law_book_7 K))
def sp__law_book (K : PySem.W.Frag) : Sp := fun vs H Q _ => ∃ (d : Addr) (c m : Int), vs = [.ref d, .int c, .int m] ∧ 0 < m ∧ m ≤ 8 ∧ Dk H d ∧ ∀ (t : Addr) (us : List V) (rs : List Row) (H' : Hp), Mv d H H' → H' t = some (.tup us) → Dvs K H' (rs.map Row.da) us → 1 ≤ rs.length → rs.length ≤ 8 → BkS rs → Q (.ref t) H'
theorem len__law_book (K : PySem.W.Frag) : ∀ vs H Q E, sp__law_book K vs H Q E → vs.length = ["_law_deck", "_law_code", "_law_most"].length := by rintro vs H Q E ⟨d, c, m, rfl, _⟩; rfl
def R__law_book (K : PySem.W.Frag) : TS :=
 (tSeq (tAsg (tOp (rAddA K) (tC (.int 1)) (tCall (sp__law_draw K) [] E0 (tCons (tVar 0) (tCons (tVar 2) tNil)))) (gName 3))
 (T__law_book_8 K))
theorem rd__law_book (h : sp__law_book K vs H Q E) : R__law_book K { nx := fun _ H' => Q .non H', rt := Q } (start ["_law_deck", "_law_code", "_law_most", "_law_count", "_law_sorts_here", "_law_hosts", "_law_names", "_law_soft", "_law_may_shut", "_law_book_here", "_law_k", "_law_shuts", "_law_host", "_law_row_here"] vs) H := by
  obtain ⟨d, c, m, rfl, h0, h1, dk, q⟩ := h
  show R__law_book K _ [some (.ref d), some (.int c), some (.int m), none, none, none, none, none, none, none, none, none, none, none] H
  unfold R__law_book
  walk_at "step"
  refine ⟨d, m, rfl, h0, by omega, dk, fun x H1 x0 x1 mv1 => ?_⟩
  walk_at "step"
  obtain ⟨n, hn, n1, n12⟩ : ∃ n : Nat, (1 : Int) + x = n ∧ 1 ≤ n ∧ n ≤ 8 := ⟨(1 + x).toNat, by omega, by omega, by omega⟩
  rw [hn]
  refine ⟨d, n, rfl, n1, by omega, mv1.dk, fun r sa hb ss kvs H2 mv2 hr hsa nsa lsa hss hhb hst => ?_⟩
  refine ⟨r, _, rfl, SqT.of hr, rfl, ?_⟩
  refine ⟨_, _, rfl, ?_⟩
  walk_at "step"
  refine ⟨_, _, rfl, ?_⟩
  walk_at "step"
  refine ⟨rfl, ?_⟩
  have mvA := mv1.tr mv2
  have nhb : hb ≠ d := fun e => by obtain ⟨ns, h, _⟩ := mv2.dk; rw [← e, hhb] at h; cases h
  walk_at "step"
  let Pv1 : Nat → List V → Hp → Prop := fun i ys H' => H' = H2 ∧ ∃ zs : List Str, ys = strV zs ∧ zs.length = i ∧ zs = (List.range i).map (fun k : Nat => nameF c (k : Int))
  refine rng1_comp (by omega) (by omega) Pv1 ⟨rfl, [], rfl, rfl, rfl⟩ ?_ ?_ ?_
  · rintro i ys H' hi ⟨rfl, zs, rfl, hz, _⟩
    rw [strV_len]; exact sl64 (by omega)
  · rintro i ys H' hi ⟨rfl, zs, rfl, hz, h8⟩
    walk_at "step"
    refine ⟨c, i, rfl, ?_⟩
    exact ⟨rfl, zs ++ [nameF c (i : Int)], strV_app _ _, by simp [hz], by rw [h8, List.range_succ, List.map_append]; rfl⟩
  rintro ys H' ⟨rfl, names, rfl, lnm, nle⟩ nm hnm
  walk_at "step"
  have s3 : Same H' (upd H' nm (.lst (strV names))) := Same.new hnm _
  have hnm3 : (upd H' nm (.lst (strV names))) nm = some (.lst (strV names)) := upd_same
  have nnm : nm ≠ d := mv2.dk.ne hnm
  have hsa3 := s3 _ _ hsa
  have hhb3 := s3 _ _ hhb
  have mv3 := mvA.new hnm (.lst (strV names))
  generalize (upd H' nm (.lst (strV names))) = H3 at *
  let Pv2 : Nat → List V → Hp → Prop := fun i ys H' => Same H3 H' ∧ ∃ zs : List Int, ys = intV zs ∧ zs.length ≤ i ∧ ∀ z ∈ zs, 0 ≤ z ∧ z < n
  refine rng1_comp (by omega) (by omega) Pv2 ⟨fun _ _ e => e, [], rfl, by simp, by simp⟩ ?_ ?_ ?_
  · rintro i ys H' hi ⟨_, zs, rfl, hz, _⟩
    rw [intV_len]; exact sl64 (by omega)
  · rintro i ys H' hi ⟨s4, zs, rfl, hz, hr⟩
    walk_at "step"
    refine v_ixL (SqL.of (s4 _ _ hsa3)) (atI_nat (strV_at (by omega))) ?_
    walk_at "step"
    refine ⟨sl64 (by simp), fun t ht => ?_⟩
    refine .inl (v_in (xs := strV [("plain" : Str), ("anew" : Str)]) (.inr (SqT.of upd_same)) rfl (flat_strV _) ?_)
    rw [inV_strV]
    walk_at "step"
    have s5 := Same.tr s4 (Same.new ht (.tup (strV [("plain" : Str), ("anew" : Str)])))
    by_cases hin : ss[i] ∈ [("plain" : Str), ("anew" : Str)]
    · rw [decide_eq_true hin]; refine iteT ?_
      walk_at "step"
      refine ⟨s5, zs ++ [(i : Int)], intV_app _ _, by simp; omega, fun z hz' => ?_⟩
      rcases List.mem_append.mp hz' with h | h
      · exact hr z h
      · rw [List.mem_singleton.mp h]; omega
    · rw [decide_eq_false hin]; refine iteF ?_
      exact ⟨s5, zs, rfl, by omega, hr⟩
  rintro ys H' ⟨s4, soft, rfl, sfl, sfr⟩ sf hsf
  walk_at "step"
  have sfl : soft.length ≤ n := by omega
  have nsf : sf ≠ d := (mv3.dk.same s4).ne hsf
  have s5 : Same H3 (upd H' sf (.lst (intV soft))) := Same.tr s4 (Same.new hsf _)
  have hsf5 : (upd H' sf (.lst (intV soft))) sf = some (.lst (intV soft)) := upd_same
  generalize (upd H' sf (.lst (intV soft))) = H5 at *
  let Pv3 : Nat → List V → Hp → Prop := fun i ys H' => Same H5 H' ∧ ∃ zs : List Str, ys = strV zs ∧ zs.length ≤ i
  refine any_compL (xs := intV soft) (SqL.of hsf5) Pv3 ⟨fun _ _ e => e, [], rfl, by simp⟩ ?_ ?_ ?_ ?_
  · rintro i ys H' hi ⟨_, zs, rfl, hz⟩
    rw [intV_len] at hi
    rw [strV_len]; exact sl64 (by omega)
  · rintro i ys H' hi ⟨s6, _⟩
    exact SqL.of (s6 _ _ hsf5)
  · rintro i x ys H' hx ⟨s6, zs, rfl, hz⟩
    unfold intV at hx
    rw [List.getElem?_map] at hx
    obtain ⟨j, hj, rfl⟩ := Option.map_eq_some_iff.mp hx
    obtain ⟨j0, j1⟩ := sfr j (List.mem_of_getElem? hj)
    walk_at "step"
    obtain ⟨js, ej⟩ := hst_ints hst.hst
    refine ⟨_, hb, kvs, js, rfl, rfl, s6 _ _ (s5 _ _ hhb3), ej, ?_⟩
    generalize (if true = true then !decide (j ∈ js) else decide (j ∈ js)) = cc
    walk_at "step"
    cases cc with
    | true =>
      refine iteT ?_
      walk_at "step"
      refine v_ixL (SqL.of (s6 _ _ (s5 _ _ hnm3))) (ixI j0 (strV_at (by omega))) ?_
      exact ⟨s6, zs ++ [_], strV_app _ _, by simp; omega⟩
    | false =>
      refine iteF ?_
      exact ⟨s6, zs, rfl, by omega⟩
  rintro ys H' ⟨s6, may, rfl, mle⟩ my hmy
  rw [intV_len] at mle
  walk_at "step"
  have dk6 : Dk H' d := (mv3.dk.same s5).same s6
  have nmy : my ≠ d := dk6.ne hmy
  have s7 : Same H5 (upd H' my (.lst (strV may))) := Same.tr s6 (Same.new hmy _)
  have hmy7 : (upd H' my (.lst (strV may))) my = some (.lst (strV may)) := upd_same
  have dk7 : Dk (upd H' my (.lst (strV may))) d := dk6.same (Same.new hmy _)
  generalize (upd H' my (.lst (strV may))) = H7 at *
  refine ⟨sl64 (by simp), fun bk hbk => ?_⟩
  walk_at "step"
  have s8 : Same H5 (upd H7 bk (.lst [])) := Same.tr s7 (Same.new hbk _)
  have s38 := Same.tr s5 s8
  have nbk : bk ≠ d := dk7.ne hbk
  have hmy8 : (upd H7 bk (.lst [])) my = some (.lst (strV may)) := Same.new hbk _ _ _ hmy7
  have B : BkA c (upd H7 bk (.lst [])) d sa hb nm sf my bk n ss names may soft kvs :=
    { n16 := by omega, hsa := s38 _ _ hsa3, lsa := lsa, hhb := s38 _ _ hhb3, hst := hst, hnm := s38 _ _ hnm3, lnm := by omega, nle := (by rw [show ((n : Int)).toNat = n by omega] at nle; exact nle), hsf := s8 _ _ hsf5, sfl := sfl, sfr := sfr, hmy := hmy8, mle := by omega,
      n1 := by simp; exact ⟨nsa, ne_free (s7 _ _ (s5 _ _ hsa3)) hbk⟩, n2 := by simp; exact ⟨nhb, ne_free (s7 _ _ (s5 _ _ hhb3)) hbk⟩, n3 := by simp; exact ⟨nnm, ne_free (s7 _ _ (s5 _ _ hnm3)) hbk⟩, n4 := by simp; exact ⟨nsf, ne_free (s7 _ _ hsf5) hbk⟩, n5 := by simp; exact ⟨nmy, ne_free hmy7 hbk⟩ }
  have hbk8 : (upd H7 bk (.lst [])) bk = some (.lst []) := upd_same
  have mv8 : Mv d H (upd H7 bk (.lst [])) := (mv3.same s5).same s8
  have bk0 : H bk = none := none_mv ((mv3.same s5).same s7) dk hbk
  have dk8 := mv8.dk
  generalize (upd H7 bk (.lst [])) = H8 at *
  let Pv4 : Nat → St → Hp → Prop := fun i σ H' => ∃ (us : List V) (rs : List Row) (a10 a11 a12 a13 : Option V), σ = [some (.ref d), some (.int c), some (.int m), some (.int n), some (.ref sa), some (.ref hb), some (.ref nm), some (.ref sf), some (.ref my), some (.ref bk), a10, a11, a12, a13] ∧ But [d, bk] H8 H' ∧ Dk H' d ∧ H' bk = some (.lst us) ∧ Dvs K H' (rs.map Row.da) us ∧ rs.length = i ∧ Rwk c ss kvs i rs
  refine rng1_for (by omega) (by omega) Pv4 ⟨[], [], _, _, _, _, rfl, But.refl _ _, dk8, hbk8, dvs_nil, rfl, [], List.nodup_nil, by simp, rfl, rfl, rfl⟩ ?_ ?_
  · rintro i σ H' hi ⟨us, rs, a10, a11, a12, a13, rfl, bt, dk', hbk', dv', hl, ho⟩
    have B' := B.but bt
    walk_at "step"
    refine ⟨sl64 (by simp), fun e he => ?_⟩
    walk_at "step"
    have se : Same H' (upd H' e (.tup [])) := Same.new he _
    have B2 := B'.but (Same.two d bk se)
    have hbk2 := se _ _ hbk'
    have dv2 := Dvs.same se _ _ dv'
    have dk2 := dk'.same se
    have bt2 := But.tr bt (Same.two d bk se)
    have hem : Dv K (upd H' e (.tup [])) (.tuple (sDa [])) (.ref e) := dv_tuple.mpr ⟨e, [], rfl, SqT.of upd_same, dvs_nil⟩
    generalize (upd H' e (.tup [])) = H2' at *
    obtain ⟨js, ej⟩ := hst_ints hst.hst
    refine ⟨_, hb, kvs, js, rfl, rfl, B2.hhb, ej, ?_⟩
    generalize (if true = true then !decide ((i : Int) ∈ js) else decide ((i : Int) ∈ js)) = cc
    walk_at "step"
    cases cc with
    | false =>
      refine iteF ?_
      refine book_B B2 (by omega) dk2 nbk hbk2 dv2 hl ho hem fun H'' us rs a12 a13 e1 e2 e3 e4 e5 e6 => ?_
      exact ⟨us, rs, _, _, _, _, rfl, But.tr bt2 e1, e2, e3, e4, e5, e6⟩
    | true =>
      refine iteT ?_
      walk_at "step"
      have := B2.mle
      have nmy' : my ≠ d := nmy
      refine ⟨d, my, may, rfl, dk2, B2.hmy, nmy, by omega, fun t ys H4 mv4 ht _ _ => ?_⟩
      walk_at "step"
      have b4 : But [d, bk] H2' H4 := mv4.two bk
      refine book_B (B2.but b4) (by omega) mv4.dk nbk (mv4.at hbk2 nbk) (Dvs.tupK (mv4.tupK dk2) _ _ (fixs_map Row.fix rs) dv2) hl ho (dv_tuple.mpr ⟨t, _, rfl, SqT.of ht, dvs_sDa.mpr rfl⟩) fun H'' us rs a12 a13 e1 e2 e3 e4 e5 e6 => ?_
      exact ⟨us, rs, _, _, _, _, rfl, But.tr (But.tr bt2 b4) e1, e2, e3, e4, e5, e6⟩
  · rintro σ H' ⟨us, rs, a10, a11, a12, a13, rfl, bt, dk', hbk', dv', hl, ho⟩
    walk_at "step"
    refine ⟨bk, us, rfl, .inl ⟨SqL.of hbk', fun t ht => ?_⟩⟩
    have st : Same H' (upd H' t (.tup us)) := Same.new ht _
    refine q t us rs _ ⟨fun b o e nb => ?_, dk'.same st⟩ upd_same (Dvs.same st _ _ dv') (by omega) (by omega) ((by rw [show ((n : Int)).toNat = n by omega] at ho; exact ho : Rwk c ss kvs n rs).bks hst hss lsa n12)
    refine st _ _ (bt b o (mv8.but b o e nb) ?_)
    simp at nb ⊢
    exact ⟨nb, ne_free e bk0⟩
end My
namespace My
open PySem L2
variable {K : PySem.W.Frag} {vs : List V} {H : Hp} {Q : VK} {E : XK}
@[reducible] def T__law_text_0 (K : PySem.W.Frag) : TS :=
 (tSeq (tAsg (tC (.str (" !\"#$&'()*+,-./0123456789:;<=>?@ABCDEFGHIJKLMNOPQRSTUVWXYZ[\\]^_`" : Str))) (gName 1))
 (tAsg (tOp (rAddA K) (tVar 1) (tC (.str ("abcdefghijklmnopqrstuvwxyz{|}~\n" : Str)))) (gName 1)))
def textT (K : PySem.W.Frag) : TS :=
 (tRet (tBM K "str" (rJoin K) (tC (.str ("" : Str))) (tCons (tComp [some 1, some 0, none] (iRng1 (tCons (tOp (rAddA K) (tC (.int 1)) (tCall (sp__law_draw K) [] E0 (tCons (tVar 0) (tCons (tC (.int 9)) tNil)))) tNil)) (gName 2) tTT (tOp (rIxA K) (tVar 0) (tCall (sp__law_draw K) [] E0 (tCons (tVar 1) (tCons (tCB (rLenA K) (tCons (tVar 0) tNil)) tNil))))) tNil)))
theorem join_len (cs : List Nat) : (PySem.Txt.join ("" : Str) (cs.map ch)).length = cs.length := by
  show (PySem.Txt.join ("" : Str) (cs.map ch)).cps.size = _
  rw [← Array.length_toList, join_ch]
theorem sum_ch (cs : List Nat) : ((cs.map ch).map (·.length)).sum = cs.length := by
  induction cs with
  | nil => rfl
  | cons c r ih => rw [List.map_cons, List.map_cons, List.sum_cons, ih, List.length_cons]; show 1 + _ = _; omega
theorem mul01 {x : Str} {c : Bool} : (PySem.Txt.mul x (if c = true then 1 else 0)).length ≤ x.length := by
  cases c with
  | false => exact Nat.zero_le _
  | true => exact Nat.le_refl _
theorem text_tail {D : Ends} {d : Addr} {S : Str} (dk : Dk H d) (h1 : 1 ≤ S.length) (h2 : S.length ≤ 1000) (q : ∀ (x : Str) (H' : Hp), Mv d H H' → 1 ≤ x.length → x.length ≤ 9 → D.rt (.str x) H') : textT K D [some (.ref d), some (.str S)] H := by
  unfold textT
  walk_at "step"
  refine ⟨rfl, ?_⟩
  walk_at "step"
  refine ⟨d, 9, rfl, by decide, by decide, dk, fun m H1 m0 m1 mv1 => ?_⟩
  walk_at "step"
  let Pv0 : Nat → List V → Hp → Prop := fun i ys H' => Mv d H1 H' ∧ ∃ cs : List Nat, ys = strV (cs.map ch) ∧ cs.length = i
  refine rng1_comp (by omega) (by omega) Pv0 ⟨Mv.refl mv1.dk, [], rfl, rfl⟩ ?_ ?_ ?_
  · rintro i ys H' hi ⟨_, cs, rfl, hl⟩
    rw [strV_len, List.length_map]; exact sl64 (by omega)
  · rintro i ys H' hi ⟨mv, cs, rfl, hl⟩
    walk_at "step"
    refine v_lenS (sl64 (by omega)) ?_
    walk_at "step"
    refine ⟨d, (S.length : Int), rfl, by omega, by omega, mv.dk, fun x H2 x0 x1 mv2 => ?_⟩
    have hx : x.toNat < S.cps.toList.length := by rw [Array.length_toList]; show x.toNat < S.length; omega
    refine v_ixS (sl64 (by omega)) (ixI x0 (List.getElem?_eq_getElem hx)) ?_
    exact ⟨mv.tr mv2, cs ++ [S.cps.toList[x.toNat]], by simp [strV, ch], by simp [hl]⟩
  · rintro ys H' ⟨mv, cs, rfl, hl⟩ p hp
    walk_at "step"
    refine ⟨"", p, cs.map ch, rfl, rfl, .inl (SqL.of upd_same), ?_, ?_⟩
    · rw [sum_ch, show ("" : Str).length = 0 from rfl]; omega
    · exact q _ _ ((mv1.tr mv).new hp _) (by rw [join_len]; omega) (by rw [join_len]; omega)
@[reducible] def T__law_text_2 (K : PySem.W.Frag) : TS :=
 (tSeq (tIfS (tTest (tOp (rEqA K) (tCall (sp__law_draw K) [] E0 (tCons (tVar 0) (tCons (tC (.int 2)) tNil))) (tC (.int 1))))
 (T__law_text_0 K) tNext)
 (textT K))
def sp__law_text (K : PySem.W.Frag) : Sp := fun vs H Q _ => ∃ (d : Addr), vs = [.ref d] ∧ Dk H d ∧ ∀ (x : Str) (H' : Hp), Mv d H H' → 1 ≤ x.length → x.length ≤ 9 → Q (.str x) H'
theorem len__law_text (K : PySem.W.Frag) : ∀ vs H Q E, sp__law_text K vs H Q E → vs.length = ["_law_deck"].length := by rintro vs H Q E ⟨d, rfl, _⟩; rfl
def R__law_text (K : PySem.W.Frag) : TS :=
 (tSeq (tAsg (tC (.str ("ab <&>;l/\nZ~ 7" : Str))) (gName 1))
 (T__law_text_2 K))
theorem rd__law_text (h : sp__law_text K vs H Q E) : R__law_text K { nx := fun _ H' => Q .non H', rt := Q } (start ["_law_deck", "_law_signs"] vs) H := by
  obtain ⟨d, rfl, dk, q⟩ := h
  show R__law_text K _ [some (.ref d), none] H
  unfold R__law_text
  walk_at "step"
  refine ⟨d, 2, rfl, by decide, by decide, dk, fun m H1 m0 m1 mv1 => ?_⟩
  walk_at "step"
  have qq : ∀ (x : Str) (H' : Hp), Mv d H1 H' → 1 ≤ x.length → x.length ≤ 9 → Q (.str x) H' := fun x H' mv a b => q x H' (mv1.tr mv) a b
  by_cases e : m = 1
  · rw [decide_eq_true e]; refine iteT ?_
    walk_at "step"
    refine v_addS (sl64 (by decide +kernel)) ?_
    walk_at "step"
    exact text_tail mv1.dk (by rw [app_len]; decide +kernel) (by rw [app_len]; decide +kernel) qq
  · rw [decide_eq_false e]; refine iteF ?_
    exact text_tail mv1.dk (by decide +kernel) (by decide +kernel) qq
@[reducible] def T__law_tree_0 (K : PySem.W.Frag) : TS :=
 (tAsg (tOp (rIxA K) (tOp (rIxA K) (tVar 1) (tCall (sp__law_draw K) [] E0 (tCons (tVar 0) (tCons (tCB (rLenA K) (tCons (tVar 1) tNil)) tNil)))) (tC (.int 0))) (gName 4))
@[reducible] def T__law_tree_1 (K : PySem.W.Frag) : TS :=
 (tDrop (tBM K "list" rAppend (tVar 5) (tCons (tOp rMulA (tCall (sp__law_text K) [] E0 (tCons (tVar 0) tNil)) (tCB rIntA (tCons (tOp (rNeA K) (tCall (sp__law_draw K) [] E0 (tCons (tVar 0) (tCons (tC (.int 9)) tNil))) (tC (.int 4))) tNil))) tNil)))
@[reducible] def T__law_tree_2 (K : PySem.W.Frag) (spr : Sp) : TS :=
 (tDrop (tBM K "list" rAppend (tVar 5) (tCons (tCall spr [] E0 (tCons (tVar 0) (tCons (tVar 1) (tCons (tVar 2) (tCons (tOp (rI0 fun i j => .int (i - j)) (tVar 3) (tC (.int 1))) tNil))))) tNil)))
@[reducible] def T__law_tree_3 (K : PySem.W.Frag) (spr : Sp) : TS :=
 (tIfS (tTest (tOp (rEqA K) (tCall (sp__law_draw K) [] E0 (tCons (tVar 0) (tCons (tC (.int 3)) tNil))) (tC (.int 0))))
 (T__law_tree_1 K) (T__law_tree_2 K spr))
@[reducible] def T__law_tree_4 (K : PySem.W.Frag) (spr : Sp) : TS :=
 (tFor (iRng1 (tCons (tCall (sp__law_draw K) [] E0 (tCons (tVar 0) (tCons (tC (.int 4)) tNil))) tNil)) (gName 6)
 (T__law_tree_3 K spr))
@[reducible] def T__law_tree_5 (K : PySem.W.Frag) (spr : Sp) : TS :=
 (tSeq (tIfS (tTest (tOp rGtA (tVar 3) (tC (.int 1))))
 (T__law_tree_4 K spr) tNext)
 (tRet (tTup (tCons (tVar 4) (tCons (tCB (rTupleA K) (tCons (tVar 5) tNil)) tNil)))))
def treeB (K : PySem.W.Frag) (spr : Sp) : TS :=
 (tSeq (tAsg (tLst tNil) (gName 5))
 (T__law_tree_5 K spr))
theorem das_app (a b : List Tr) : Tr.das (a ++ b) = Tr.das a ++ Tr.das b := by rw [das_map, das_map, das_map, List.map_append]
@[reducible] def T__law_tree_6 (K : PySem.W.Frag) (spr : Sp) : TS :=
 (tSeq (tIfS (tTest (tOp rGtA (tCall (sp__law_draw K) [] E0 (tCons (tVar 0) (tCons (tC (.int 4)) tNil))) (tC (.int 0))))
 (T__law_tree_0 K) tNext)
 (treeB K spr))
def spn__law_tree (n : Nat) (K : PySem.W.Frag) : Sp := fun vs H Q _ => ∃ (d bk : Addr) (c deep : Int) (us : List V) (rs : List Row), vs = [.ref d, .ref bk, .int c, .int deep] ∧ Dk H d ∧ SqT K H bk us ∧ Dvs K H (rs.map Row.da) us ∧ 1 ≤ rs.length ∧ rs.length ≤ 12 ∧ deep ≤ n + 1 ∧ ∀ (t : Tr) (v : V) (H' : Hp), Mv d H H' → Dv K H' t.da v → wt t ≤ 10 * 4 ^ n → hgt t ≤ n + 1 → Q v H'
def sp__law_tree (K : PySem.W.Frag) : Sp := spn__law_tree 5 K
def prev__law_tree (K : PySem.W.Frag) : Nat → Sp
  | 0 => fun _ _ _ _ => False
  | n + 1 => spn__law_tree n K
theorem len__law_tree (K : PySem.W.Frag) (n : Nat) : ∀ vs H Q E, spn__law_tree n K vs H Q E → vs.length = ["_law_deck", "_law_book_here", "_law_code", "_law_deep"].length := by rintro vs H Q E ⟨d, bk, c, deep, us, rs, rfl, _⟩; rfl
def R__law_tree (K : PySem.W.Frag) (spr : Sp) : TS :=
 (tSeq (tAsg (tOp rMulA (tCall (sp__law_name K) [] E0 (tCons (tVar 2) (tCons (tCall (sp__law_draw K) [] E0 (tCons (tVar 0) (tCons (tC (.int 13)) tNil))) tNil))) (tCB rIntA (tCons (tOp (rNeA K) (tCall (sp__law_draw K) [] E0 (tCons (tVar 0) (tCons (tC (.int 8)) tNil))) (tC (.int 1))) tNil))) (gName 4))
 (T__law_tree_6 K spr))
theorem rd__law_tree (n : Nat) (h : spn__law_tree n K vs H Q E) : R__law_tree K (prev__law_tree K n) { nx := fun _ H' => Q .non H', rt := Q } (start ["_law_deck", "_law_book_here", "_law_code", "_law_deep", "_law_name_here", "_law_parts", "_law_k"] vs) H := by
  obtain ⟨d, bk, c, deep, us, rs, rfl, dk, hbk, dvs, r1, r2, hdeep, q⟩ := h
  show R__law_tree K _ _ [some (.ref d), some (.ref bk), some (.int c), some (.int deep), none, none, none] H
  have hul : us.length = rs.length := by have := dvs.length; rw [List.length_map] at this; exact this
  have fin : ∀ (nm : Str) (H1 : Hp), Mv d H H1 → treeB K (prev__law_tree K n) { nx := fun _ H' => Q .non H', rt := Q } [some (.ref d), some (.ref bk), some (.int c), some (.int deep), some (.str nm), none, none] H1 := by
    intro nm H1 mv1
    unfold treeB
    walk_at "step"
    refine ⟨sl64 (by simp), fun p hp => ?_⟩
    walk_at "step"
    have np : p ≠ d := mv1.dk.ne hp
    have mv2 := mv1.new hp (.lst [])
    have hp2 : (upd H1 p (.lst [])) p = some (.lst []) := upd_same
    have p0 : H p = none := none_mv mv1 dk hp
    generalize (upd H1 p (.lst [])) = H2 at *
    have ret : ∀ (ts : List Tr) (vs : List V) (a6 : Option V) (H' : Hp), Mv d H H' → H' p = some (.lst vs) → Dvs K H' (Tr.das ts) vs → ts.length ≤ 3 → 1 + wts ts ≤ 10 * 4 ^ n → 1 + hgts ts ≤ n + 1 → tRet (tTup (tCons (tVar 4) (tCons (tCB (rTupleA K) (tCons (tVar 5) tNil)) tNil))) { nx := fun _ H' => Q .non H', rt := Q } [some (.ref d), some (.ref bk), some (.int c), some (.int deep), some (.str nm), some (.ref p), a6] H' := by
      intro ts vs a6 H' mv hv dv hl hw hh
      walk_at "step"
      refine ⟨p, vs, rfl, .inl ⟨SqL.of hv, fun t ht => ?_⟩⟩
      walk_at "step"
      refine ⟨sl64 (by simp), fun r hr => ?_⟩
      have s1 : Same H' (upd (upd H' t (.tup vs)) r (.tup [.str nm, .ref t])) := Same.tr (Same.new ht _) (Same.new hr _)
      refine q (.nd nm ts) _ _ (mv.same s1) ?_ (by rw [wt]; exact hw) (by rw [hgt]; exact hh)
      rw [Tr.da]
      exact dv_tuple.mpr ⟨r, _, rfl, SqT.of upd_same, dvs_cons (dv_str.mpr rfl) (dvs_cons (dv_tuple.mpr ⟨t, vs, rfl, SqT.of (by rw [upd_ne (ne_free upd_same hr)]; exact upd_same), Dvs.same s1 _ _ dv⟩) dvs_nil)⟩
    by_cases hd : 1 < deep
    · rw [decide_eq_true hd]; refine iteT ?_
      obtain ⟨m, rfl⟩ : ∃ m, n = m + 1 := ⟨n - 1, by omega⟩
      walk_at "step"
      refine ⟨d, 4, rfl, by decide, by decide, mv2.dk, fun x H3 x0 x1 mv3 => ?_⟩
      walk_at "step"
      have hB : 10 ≤ 10 * 4 ^ m := by have : 1 ≤ 4 ^ m := Nat.one_le_pow _ _ (by decide); omega
      have hB2 : 10 * 4 ^ (m + 1) = 4 * (10 * 4 ^ m) := by rw [Nat.pow_succ]; omega
      have mvA := mv2.tr mv3
      generalize 10 * 4 ^ m = BB at *
      let Pv1 : Nat → St → Hp → Prop := fun i σ H' => ∃ (ts : List Tr) (vs : List V) (a6 : Option V), σ = [some (.ref d), some (.ref bk), some (.int c), some (.int deep), some (.str nm), some (.ref p), a6] ∧ Mv d H H' ∧ H' p = some (.lst vs) ∧ Dvs K H' (Tr.das ts) vs ∧ ts.length = i ∧ wts ts ≤ i * BB ∧ hgts ts ≤ m + 1
      refine rng1_for (by omega) (by omega) Pv1 ⟨[], [], _, rfl, mvA, mv3.at hp2 np, by rw [Tr.das]; exact dvs_nil, rfl, by rw [wts]; exact Nat.zero_le _, by rw [hgts]; exact Nat.zero_le _⟩ ?_ ?_
      · rintro i σ H' hi ⟨ts, vs, a6, rfl, mv, hv, dv, hl, hw, hh⟩
        have hvl : vs.length = i := by rw [das_len dv]; exact hl
        walk_at "step"
        refine ⟨d, 3, rfl, by decide, by decide, mv.dk, fun y H4 y0 y1 mv4 => ?_⟩
        walk_at "step"
        have hv4 := mv4.at hv np
        have dv4 := Dvs.tupK (mv4.tupK mv.dk) _ _ (das_fix ts) dv
        have mvB := mv.tr mv4
        have hwi : (i + 1) * BB = i * BB + BB := by rw [Nat.add_mul, Nat.one_mul]
        by_cases e : y = 0
        · rw [decide_eq_true e]; refine iteT ?_
          walk_at "step"
          refine ⟨.inl ⟨rfl, _, SqL.of hv4⟩, ?_⟩
          walk_at "step"
          refine ⟨d, rfl, mv4.dk, fun z H5 mv5 z1 z9 => ?_⟩
          walk_at "step"
          refine ⟨d, 9, rfl, by decide, by decide, mv5.dk, fun w H6 w0 w1 mv6 => ?_⟩
          walk_at "step"
          refine .inr ⟨_, rfl, ?_⟩
          refine v_mulS (by split <;> omega) (by split <;> omega) (by omega) ?_
          have hz := mul01 (x := z) (c := !decide (w = 4))
          generalize PySem.Txt.mul z (if (!decide (w = 4)) = true then 1 else 0) = zz at *
          walk_at "step"
          have hv6 := mv6.at (mv5.at hv4 np) np
          refine v_append hv6 (by rw [sizeLine_eq]; omega) ?_
          refine ⟨ts ++ [.tx zz], _, _, rfl, ((mvB.tr mv5).tr mv6).put dk p0 _, upd_same, ?_, by simp [hl], ?_, ?_⟩
          · rw [das_app]
            have tk := (mv5.tupK mv4.dk).trans ((mv6.tupK mv5.dk).trans (tupK_lst hv6 (ys := vs ++ [V.str zz])))
            refine Dvs.append (Dvs.tupK tk _ _ (das_fix ts) dv4) ?_
            rw [Tr.das, Tr.das, Tr.da]
            exact Dvs.one (dv_str.mpr rfl)
          · rw [wts_app, wts, wts, wt]; omega
          · rw [hgts_app, hgts, hgts, hgt]; omega
        · rw [decide_eq_false e]; refine iteF ?_
          walk_at "step"
          refine ⟨.inl ⟨rfl, _, SqL.of hv4⟩, ?_⟩
          walk_at "step"
          have tkB : TupK H H4 := mvB.tupK dk
          refine ⟨d, bk, c, deep - 1, us, rs, rfl, mv4.dk, tkB.sqT hbk, Dvs.tupK tkB _ _ (fixs_map Row.fix rs) dvs, r1, r2, by omega, fun t v H5 mv5 dt wtt htt => ?_⟩
          walk_at "step"
          have hv5 := mv5.at hv4 np
          refine v_append hv5 (by rw [sizeLine_eq]; omega) ?_
          refine ⟨ts ++ [t], _, _, rfl, (mvB.tr mv5).put dk p0 _, upd_same, ?_, by simp [hl], ?_, ?_⟩
          · rw [das_app]
            have tk5 : TupK H5 (upd H5 p (.lst (vs ++ [v]))) := tupK_lst hv5
            refine Dvs.append (Dvs.tupK ((mv5.tupK mv4.dk).trans tk5) _ _ (das_fix ts) dv4) ?_
            rw [Tr.das, Tr.das]
            exact Dvs.one (Dv.tupK tk5 _ _ (da_fix t) dt)
          · rw [wts_app, wts, wts]; omega
          · rw [hgts_app, hgts, hgts]; omega
      · rintro σ H' ⟨ts, vs, a6, rfl, mv, hv, dv, hl, hw, hh⟩
        refine ret ts vs a6 H' mv hv dv (by omega) ?_ (by omega)
        have : x.toNat * BB ≤ 3 * BB := Nat.mul_le_mul_right _ (by omega)
        omega
    · rw [decide_eq_false hd]; refine iteF ?_
      refine ret [] [] _ H2 mv2 hp2 (by rw [Tr.das]; exact dvs_nil) (by simp) ?_ ?_
      · rw [wts]; have : 1 ≤ 4 ^ n := Nat.one_le_pow _ _ (by decide); omega
      · rw [hgts]; omega
  unfold R__law_tree
  walk_at "step"
  refine ⟨d, 13, rfl, by decide, by decide, dk, fun x H1 x0 x1 mv1 => ?_⟩
  walk_at "step"
  refine ⟨c, x, rfl, ?_⟩
  have n8 := (nameF_len c x).2
  generalize nameF c x = nm at *
  walk_at "step"
  refine ⟨d, 8, rfl, by decide, by decide, mv1.dk, fun y H2 y0 y1 mv2 => ?_⟩
  walk_at "step"
  refine .inr ⟨_, rfl, ?_⟩
  refine v_mulS (by split <;> omega) (by split <;> omega) (by omega) ?_
  walk_at "step"
  refine ⟨d, 4, rfl, by decide, by decide, mv2.dk, fun z H3 z0 z1 mv3 => ?_⟩
  walk_at "step"
  have mvA := (mv1.tr mv2).tr mv3
  by_cases hz : 0 < z
  · rw [decide_eq_true hz]; refine iteT ?_
    walk_at "step"
    have tk := mvA.tupK dk
    refine v_lenQ (.inr (tk.sqT hbk)) ?_
    walk_at "step"
    refine ⟨d, (us.length : Int), rfl, by omega, by omega, mv3.dk, fun w H4 w0 w1 mv4 => ?_⟩
    have mvB := mvA.tr mv4
    have tk4 := mvB.tupK dk
    have hw : w.toNat < rs.length := by omega
    obtain ⟨u, hu, du⟩ := (Dvs.tupK tk4 _ _ (fixs_map Row.fix rs) dvs).get (i := w.toNat) (by rw [List.getElem?_map, List.getElem?_eq_getElem hw]; rfl)
    refine v_ixT (tk4.sqT hbk) (ixI w0 hu) ?_
    obtain ⟨bb, sv, bv, rfl, hb, _⟩ := row_parts du
    walk_at "step"
    refine v_ixT hb (v := .str rs[w.toNat].name) rfl ?_
    walk_at "step"
    exact fin _ H4 mvB
  · rw [decide_eq_false hz]; refine iteF ?_
    exact fin _ H3 mvA
end My
namespace My
open PySem L2
variable {K : PySem.W.Frag} {vs : List V} {H : Hp} {Q : VK} {E : XK}
@[reducible] def Tx_way_to_0 (K : PySem.W.Frag) (k_NoPlace : Addr) (E : XK) : TS :=
 (tSeq (tIfS (tNot (tTest (tChain rLeA rLtA (tC (.int 0)) (tVar 3) (tCB (rLenA K) (tCons (tVar 4) tNil)))))
 (tRaise k_NoPlace E (tCons (tC (.str ("the place leads nowhere" : Str))) tNil)) tNext)
 (tDrop (tBM K "list" rAppend (tVar 2) (tCons (tOp (rIxA K) (tVar 4) (tVar 3)) tNil))))
@[reducible] def Tx_way_to_1 (K : PySem.W.Frag) (k_NoPlace : Addr) (E : XK) : TS :=
 (tSeq (tAsg (tCall (sp_parts_of K) [] E0 (tCons (tOp (rIxA K) (tVar 2) (tUn (rU fun i => .int (-i)) (tC (.int 1)))) tNil)) (gName 4))
 (Tx_way_to_0 K k_NoPlace E))
def spx_way_to (K : PySem.W.Frag) (kX : Addr) : Sp := fun vs H Q E => ∃ (t : Tr) (v : V) (a : Addr) (q r : List Int) (k : Int) (ws : List Tr) (u : Tr), vs = [v, .ref a] ∧ Dv K H t.da v ∧ SqT K H a (intV (q ++ k :: r)) ∧ way t q = some (ws ++ [u]) ∧ (k < 0 ∨ u.kids.length ≤ k.toNat) ∧ q.length ≤ 50000 ∧ ∀ H', Same H H' → E (.ref kX) none H'
theorem lenx_way_to (K : PySem.W.Frag) (kX : Addr) : ∀ vs H Q E, spx_way_to K kX vs H Q E → vs.length = ["tree", "place"].length := by rintro vs H Q E ⟨t, v, a, q, r, k, ws, u, rfl, _⟩; rfl
def Rx_way_to (K : PySem.W.Frag) (k_NoPlace : Addr) (E : XK) : TS :=
 (tSeq (tAsg (tLst (tCons (tVar 0) tNil)) (gName 2))
 (tSeq (tFor (iAny K (tVar 1)) (gName 3)
 (Tx_way_to_1 K k_NoPlace E))
 (tRet (tVar 2))))
theorem rdx_way_to {kX : Addr} (h : spx_way_to K kX vs H Q E) : Rx_way_to K kX E { nx := fun _ H' => Q .non H', rt := Q } (start ["tree", "place", "way", "number", "parts"] vs) H := by
  obtain ⟨t, v, a, q, r, k, ws, u, rfl, hd, ha, hw, hk, hl, qq⟩ := h
  show Rx_way_to K kX E _ [some v, some (.ref a), none, none, none] H
  unfold Rx_way_to
  have hwl := way_len hw
  walk_at "step"
  refine ⟨sl64 (by simp), fun p hp => ?_⟩
  walk_at "step"
  let Pv0 : Nat → St → Hp → Prop := fun i σ H' => i ≤ q.length ∧ ∃ (us : List V) (a3 a4 : Option V), σ = [some v, some (.ref a), some (.ref p), a3, a4] ∧ Same H H' ∧ H' p = some (.lst us) ∧ Dvs K H' (Tr.das ((ws ++ [u]).take (i + 1))) us
  refine any_forS (H0 := H) (xs := intV (q ++ k :: r)) (.inr ha) (Same.new hp _) Pv0 ⟨Nat.zero_le _, [v], _, _, rfl, Same.new hp _, upd_same, ?_⟩ (fun i σ H' ⟨_, _, _, _, _, s, _⟩ => s) ?_ ?_
  · rw [List.take_add_one, List.take_zero, way_zero hw]
    show Dvs K _ (Tr.das [t]) [v]
    rw [Tr.das, Tr.das]
    exact Dvs.one (Dv.same (Same.new hp _) _ _ hd)
  · rintro i x σ H' hx ⟨hi, us, a3, a4, rfl, s1, hp', dv⟩
    unfold intV at hx
    rw [List.getElem?_map] at hx
    obtain ⟨k', hk', rfl⟩ := Option.map_eq_some_iff.mp hx
    have hul : us.length = i + 1 := by rw [das_len dv, List.length_take]; omega
    by_cases e : i < q.length
    · have hq : q[i]? = some k' := by rw [← hk', List.getElem?_append_left e]
      obtain ⟨u', w, h1, h2, h3, h4⟩ := way_step hw hq
      obtain ⟨y, hy, dy⟩ := das_get dv (i := i) (t := u') (by rw [List.getElem?_take_of_lt (by omega)]; exact h1)
      walk_at "step"
      refine ⟨1, rfl, ?_⟩
      refine v_ixL (SqL.of hp') (atI_last hul hy) ?_
      walk_at "step"
      refine ⟨u', y, rfl, dy, fun c ys H2 s2 hc dc => ?_⟩
      walk_at "step"
      rw [decide_eq_true h2]
      refine iteT ?_
      walk_at "step"
      refine v_lenQ (.inr hc) ?_
      have hkl := (List.getElem?_eq_some_iff.mp h3).1
      have hyl := das_len dc
      walk_at "step"
      rw [decide_eq_true (by omega)]
      refine iteF ?_
      walk_at "step"
      have hp2 := s2 _ _ hp'
      refine ⟨.inl ⟨rfl, _, SqL.of hp2⟩, ?_⟩
      walk_at "step"
      obtain ⟨z, hz, dz⟩ := das_get dc h3
      refine v_ixT hc (ixI h2 hz) ?_
      walk_at "step"
      refine v_append hp2 (by rw [sizeLine_eq]; omega) ?_
      have tk : TupK H2 (upd H2 p (.lst (us ++ [z]))) := tupK_lst hp2
      refine ⟨e, us ++ [z], _, _, rfl, Same.put (Same.tr s1 s2) hp _, upd_same, ?_⟩
      rw [List.take_add_one, h4, das_map, List.map_append, ← das_map]
      exact Dvs.append (Dvs.tupK tk _ _ (das_fix _) (Dvs.same s2 _ _ dv)) (Dvs.one (Dv.tupK tk _ _ (da_fix w) dz))
    · obtain rfl : i = q.length := by omega
      rw [List.getElem?_append_right (Nat.le_refl _), Nat.sub_self] at hk'
      cases hk'
      have hws : ws.length = q.length := by simpa using hwl
      obtain ⟨y, hy, dy⟩ := das_get dv (i := q.length) (t := u) (by rw [List.getElem?_take_of_lt (by omega), ← hws]; simp)
      walk_at "step"
      refine ⟨1, rfl, ?_⟩
      refine v_ixL (SqL.of hp') (atI_last hul hy) ?_
      walk_at "step"
      refine ⟨u, y, rfl, dy, fun c ys H2 s2 hc dc => ?_⟩
      have hyl := das_len dc
      walk_at "step"
      by_cases h0 : 0 ≤ k
      · rw [decide_eq_true h0]
        refine iteT ?_
        walk_at "step"
        refine v_lenQ (.inr hc) ?_
        walk_at "step"
        rw [decide_eq_false (by omega)]
        refine iteT ?_
        exact ⟨sl64 (by simp), qq H2 (Same.tr s1 s2)⟩
      · rw [decide_eq_false h0]
        refine iteF ?_
        walk_at "step"
        exact ⟨sl64 (by simp), qq H2 (Same.tr s1 s2)⟩
  · rintro σ H' ⟨hi, _⟩
    rw [intV_len, List.length_append, List.length_cons] at hi
    omega
def spx_part_at (K : PySem.W.Frag) (kX : Addr) : Sp := fun vs H Q E => ∃ (t : Tr) (v : V) (a : Addr) (q r : List Int) (k : Int) (ws : List Tr) (u : Tr), vs = [v, .ref a] ∧ Dv K H t.da v ∧ SqT K H a (intV (q ++ k :: r)) ∧ way t q = some (ws ++ [u]) ∧ (k < 0 ∨ u.kids.length ≤ k.toNat) ∧ q.length ≤ 50000 ∧ ∀ H', Same H H' → E (.ref kX) none H'
theorem lenx_part_at (K : PySem.W.Frag) (kX : Addr) : ∀ vs H Q E, spx_part_at K kX vs H Q E → vs.length = ["tree", "place"].length := by rintro vs H Q E ⟨t, v, a, q, r, k, ws, u, rfl, _⟩; rfl
def Rx_part_at (K : PySem.W.Frag) (k_NoPlace : Addr) (E : XK) : TS :=
 (tRet (tOp (rIxA K) (tCall (spx_way_to K k_NoPlace) [] E (tCons (tVar 0) (tCons (tVar 1) tNil))) (tUn (rU fun i => .int (-i)) (tC (.int 1)))))
theorem rdx_part_at {kX : Addr} (h : spx_part_at K kX vs H Q E) : Rx_part_at K kX E { nx := fun _ H' => Q .non H', rt := Q } (start ["tree", "place"] vs) H := by
  obtain ⟨t, v, a, q, r, k, ws, u, rfl, hd, ha, hw, hk, hl, qq⟩ := h
  show Rx_part_at K kX E _ [some v, some (.ref a)] H
  unfold Rx_part_at
  walk_at "step"
  exact ⟨t, v, a, q, r, k, ws, u, rfl, hd, ha, hw, hk, hl, qq⟩
@[reducible] def Tx_fault_at_0 (K : PySem.W.Frag) : TS :=
 (tRet (tCall (sp_text_fault K) [] E0 (tCons (tVar 0) (tCons (tVar 4) (tCons (tVar 3) (tCons (tCall (sp_follows_text K) [] E0 (tCons (tVar 1) (tCons (tVar 2) tNil))) tNil))))))
@[reducible] def Tx_fault_at_1 (K : PySem.W.Frag) : TS :=
 (tSeq (tIfS (tB (tCall (sp_is_text K) [] E0 (tCons (tVar 3) tNil)))
 (Tx_fault_at_0 K) tNext)
 (tRet (tCall (sp_tree_fault K) [] E0 (tCons (tVar 0) (tCons (tVar 4) (tCons (tVar 3) tNil))))))
@[reducible] def Tx_fault_at_2 (K : PySem.W.Frag) : TS :=
 (tSeq (tAsg (tCall (sp_names_above K) [] E0 (tCons (tVar 1) (tCons (tVar 2) tNil))) (gName 4))
 (Tx_fault_at_1 K))
def spx_fault_at (K : PySem.W.Frag) (kX : Addr) : Sp := fun vs H Q E => ∃ (t : Tr) (v bv : V) (a : Addr) (q r : List Int) (k : Int) (ws : List Tr) (u : Tr), vs = [bv, v, .ref a] ∧ Dv K H t.da v ∧ SqT K H a (intV (q ++ k :: r)) ∧ way t q = some (ws ++ [u]) ∧ (k < 0 ∨ u.kids.length ≤ k.toNat) ∧ q.length ≤ 50000 ∧ ∀ H', Same H H' → E (.ref kX) none H'
theorem lenx_fault_at (K : PySem.W.Frag) (kX : Addr) : ∀ vs H Q E, spx_fault_at K kX vs H Q E → vs.length = ["book", "tree", "place"].length := by rintro vs H Q E ⟨t, v, bv, a, q, r, k, ws, u, rfl, _⟩; rfl
def Rx_fault_at (K : PySem.W.Frag) (k_NoPlace : Addr) (E : XK) : TS :=
 (tSeq (tAsg (tCall (spx_part_at K k_NoPlace) [] E (tCons (tVar 1) (tCons (tVar 2) tNil))) (gName 3))
 (Tx_fault_at_2 K))
theorem rdx_fault_at {kX : Addr} (h : spx_fault_at K kX vs H Q E) : Rx_fault_at K kX E { nx := fun _ H' => Q .non H', rt := Q } (start ["book", "tree", "place", "part", "names"] vs) H := by
  obtain ⟨t, v, bv, a, q, r, k, ws, u, rfl, hd, ha, hw, hk, hl, qq⟩ := h
  show Rx_fault_at K kX E _ [some bv, some v, some (.ref a), none, none] H
  unfold Rx_fault_at
  walk_at "step"
  exact ⟨t, v, a, q, r, k, ws, u, rfl, hd, ha, hw, hk, hl, qq⟩
@[reducible] def T__law_no_place_0 (K : PySem.W.Frag) (k_NoPlace : Addr) : TS :=
 (tSeq (tTryX k_NoPlace (fun E => tCall (spx_fault_at K k_NoPlace) [] E (tCons (tVar 0) (tCons (tVar 1) (tCons (tVar 2) tNil)))) (tAsg (tC (.bl true)) (gName 3)))
 (tRet (tVar 3)))
def sp__law_no_place (K : PySem.W.Frag) : Sp := fun vs H Q _ => ∃ (t : Tr) (v bv : V) (a : Addr) (q r : List Int) (k : Int) (ws : List Tr) (u : Tr), vs = [bv, v, .ref a] ∧ Dv K H t.da v ∧ SqT K H a (intV (q ++ k :: r)) ∧ way t q = some (ws ++ [u]) ∧ (k < 0 ∨ u.kids.length ≤ k.toNat) ∧ q.length ≤ 50000 ∧ ∀ H', Same H H' → Q (.bl true) H'
theorem len__law_no_place (K : PySem.W.Frag) : ∀ vs H Q E, sp__law_no_place K vs H Q E → vs.length = ["_law_book_here", "_law_tree_here", "_law_place"].length := by rintro vs H Q E ⟨t, v, bv, a, q, r, k, ws, u, rfl, _⟩; rfl
def R__law_no_place (K : PySem.W.Frag) (k_NoPlace : Addr) : TS :=
 (tSeq (tAsg (tC (.bl false)) (gName 3))
 (T__law_no_place_0 K k_NoPlace))
theorem rd__law_no_place {k_NoPlace : Addr} (h : sp__law_no_place K vs H Q E) : R__law_no_place K k_NoPlace { nx := fun _ H' => Q .non H', rt := Q } (start ["_law_book_here", "_law_tree_here", "_law_place", "_law_refused"] vs) H := by
  obtain ⟨t, v, bv, a, q, r, k, ws, u, rfl, hd, ha, hw, hk, hl, qq⟩ := h
  show R__law_no_place K k_NoPlace _ [some bv, some v, some (.ref a), none] H
  unfold R__law_no_place
  walk_at "step"
  unfold tTryX
  walk_at "step"
  refine ⟨t, v, bv, a, q, r, k, ws, u, rfl, hd, ha, hw, hk, hl, fun H' s => ⟨rfl, ?_⟩⟩
  walk_at "step"
  exact qq H' s
@[reducible] def T_law_0 (K : PySem.W.Frag) : TS :=
 (tIfS (tOr (tAnd (tTest (tOp rIsA (tVar 5) (tC .non))) (tTest (tOp rIsNotA (tVar 7) (tC .non)))) (tAnd (tTest (tOp rIsNotA (tVar 5) (tC .non))) (tOr (tNot (tB (tCB (rIsi K) (tCons (tVar 7) (tCons (tC (.ty "str")) tNil))))) (tTest (tOp (rNeA K) (tVar 7) (tVar 5))))))
 (tRet (tC (.bl false))) tNext)
@[reducible] def T_law_1 (K : PySem.W.Frag) : TS :=
 (tSeq (tAsg (tCall (sp_fault_at K) [] E0 (tCons (tVar 3) (tCons (tVar 4) (tCons (tVar 6) tNil)))) (gName 7))
 (T_law_0 K))
@[reducible] def T_law_2 (K : PySem.W.Frag) : TS :=
 (tIfS (tNot (tB (tCall (sp__law_no_place K) [] E0 (tCons (tVar 3) (tCons (tVar 4) (tCons (tVar 6) tNil))))))
 (tRet (tC (.bl false))) tNext)
@[reducible] def T_law_3 (K : PySem.W.Frag) : TS :=
 (tSeq (tFor (iAny K (tLst (tCons (tTup (tCons (tOp (rAddB K) (tC (.int 2)) (tVar 8)) tNil)) (tCons (tTup (tCons (tC (.int 1)) (tCons (tC (.int 0)) tNil))) (tCons (tTup (tCons (tUn (rU fun i => .int (-i)) (tC (.int 1))) tNil)) (tCons (tTup (tCons (tC (.int 0)) (tCons (tUn (rU fun i => .int (-i)) (tC (.int 1))) tNil))) (tCons (tTup (tCons (tUn (rU fun i => .int (-i)) (tC (.int 4))) tNil)) (tCons (tTup (tCons (tOp (rI0 fun i j => .int (i - j)) (tC (.int 0)) (tVar 8)) tNil)) tNil)))))))) (gName 6)
 (T_law_2 K))
 (tRet (tC (.bl true))))
def lawX (K : PySem.W.Frag) : TS :=
 (tSeq (tAsg (tOp (rAddB K) (tC (.int 1)) (tCall (sp__law_draw K) [] E0 (tCons (tVar 1) (tCons (tOp (rI CPow fun i j => .int (i ^ j.toNat)) (tC (.int 10)) (tC (.int 30))) tNil)))) (gName 8))
 (T_law_3 K))
def lawF (K : PySem.W.Frag) : TS :=
 (tSeq (tFor (iAny K (tCall (sp__law_faults K) [] E0 (tCons (tVar 3) (tCons (tVar 4) tNil)))) (gTup K 2 (gCons (gName 5) (gCons (gName 6) gNil)))
 (T_law_1 K))
 (lawX K))
structure Bkk (K : PySem.W.Frag) (H : Hp) (d bk : Addr) (us : List V) (rs : List Row) : Prop where
  dk : Dk H d
  hbk : SqT K H bk us
  dvs : Dvs K H (rs.map Row.da) us
theorem Bkk.rws {d bk : Addr} {us : List V} {rs : List Row} (B : Bkk K H d bk us rs) : Rws K H (.ref bk) rs := ⟨bk, us, rfl, .inr B.hbk, B.dvs⟩
theorem Bkk.same {d bk : Addr} {us : List V} {rs : List Row} {H' : Hp} (B : Bkk K H d bk us rs) (s : Same H H') : Bkk K H' d bk us rs := ⟨B.dk.same s, s.sqT B.hbk, Dvs.same s _ _ B.dvs⟩
theorem Bkk.mv {d bk : Addr} {us : List V} {rs : List Row} {H' : Hp} (B : Bkk K H d bk us rs) (m : Mv d H H') : Bkk K H' d bk us rs :=
  ⟨m.dk, (m.tupK B.dk).sqT B.hbk, Dvs.tupK (m.tupK B.dk) _ _ (fixs_map Row.fix rs) B.dvs⟩
section
variable {D : Ends} {sc d bk : Addr} {c : Int} {tv : V} {us : List V} {rs : List Row}
theorem law_X {t1 t2 : Tr} {z : Str} {a5 a6 a7 a8 : Option V} (B : Bkk K H d bk us rs) (ht : Dv K H (Tr.nd ("" : Str) [t1, .tx z, t2]).da tv) (q : ∀ H', D.rt (.bl true) H') :
    lawX K D [some (.ref sc), some (.ref d), some (.int c), some (.ref bk), some tv, a5, a6, a7, a8] H := by
  unfold lawX
  walk_at "step"
  refine ⟨10, 30, rfl, rfl, ⟨by decide, by decide, by decide⟩, ?_⟩
  walk_at "step"
  refine ⟨d, _, rfl, by decide, by decide, B.dk, fun m H1 m0 m1 mv1 => ?_⟩
  have ht1 := Dv.tupK (mv1.tupK B.dk) _ _ (da_fix _) ht
  clear ht B mv1
  walk_at "step"
  refine .inl (v_addI ?_)
  walk_at "step"
  refine .inl (v_addI ?_)
  walk_at "step"
  refine ⟨sl64 (by simp), fun p1 h1 => ?_⟩
  have s1 := Same.new h1 (.tup [.int (2 + (1 + m))])
  have e1 : (upd H1 p1 (.tup [.int (2 + (1 + m))])) p1 = some (.tup [.int (2 + (1 + m))]) := upd_same
  generalize upd H1 p1 (.tup [.int (2 + (1 + m))]) = H2 at *
  walk_at "step"
  refine ⟨sl64 (by simp), fun p2 h2 => ?_⟩
  have s2 := Same.new h2 (.tup [.int 1, .int 0])
  have e2 : (upd H2 p2 (.tup [.int 1, .int 0])) p2 = some (.tup [.int 1, .int 0]) := upd_same
  generalize upd H2 p2 (.tup [.int 1, .int 0]) = H3 at *
  walk_at "step"
  refine ⟨1, rfl, ?_⟩
  walk_at "step"
  refine ⟨sl64 (by simp), fun p3 h3 => ?_⟩
  have s3 := Same.new h3 (.tup [.int (-1)])
  have e3 : (upd H3 p3 (.tup [.int (-1)])) p3 = some (.tup [.int (-1)]) := upd_same
  generalize upd H3 p3 (.tup [.int (-1)]) = H4 at *
  walk_at "step"
  refine ⟨1, rfl, ?_⟩
  walk_at "step"
  refine ⟨sl64 (by simp), fun p4 h4 => ?_⟩
  have s4 := Same.new h4 (.tup [.int 0, .int (-1)])
  have e4 : (upd H4 p4 (.tup [.int 0, .int (-1)])) p4 = some (.tup [.int 0, .int (-1)]) := upd_same
  generalize upd H4 p4 (.tup [.int 0, .int (-1)]) = H5 at *
  walk_at "step"
  refine ⟨4, rfl, ?_⟩
  walk_at "step"
  refine ⟨sl64 (by simp), fun p5 h5 => ?_⟩
  have s5 := Same.new h5 (.tup [.int (-4)])
  have e5 : (upd H5 p5 (.tup [.int (-4)])) p5 = some (.tup [.int (-4)]) := upd_same
  generalize upd H5 p5 (.tup [.int (-4)]) = H6 at *
  walk_at "step"
  refine ⟨sl64 (by simp), fun p6 h6 => ?_⟩
  have s6 := Same.new h6 (.tup [.int (0 - (1 + m))])
  have e6 : (upd H6 p6 (.tup [.int (0 - (1 + m))])) p6 = some (.tup [.int (0 - (1 + m))]) := upd_same
  generalize upd H6 p6 (.tup [.int (0 - (1 + m))]) = H7 at *
  walk_at "step"
  refine ⟨sl64 (by simp), fun l hl => ?_⟩
  have s7 := Same.new hl (.lst [.ref p1, .ref p2, .ref p3, .ref p4, .ref p5, .ref p6])
  have e7 : (upd H7 l (.lst [.ref p1, .ref p2, .ref p3, .ref p4, .ref p5, .ref p6])) l = some (.lst [.ref p1, .ref p2, .ref p3, .ref p4, .ref p5, .ref p6]) := upd_same
  generalize upd H7 l (.lst [.ref p1, .ref p2, .ref p3, .ref p4, .ref p5, .ref p6]) = H8 at *
  have s67 := Same.tr s6 s7
  have s57 := Same.tr s5 s67
  have s47 := Same.tr s4 s57
  have s37 := Same.tr s3 s47
  have s27 := Same.tr s2 s37
  have ht8 := Dv.same (Same.tr s1 s27) _ _ ht1
  have key : ∀ x ∈ [V.ref p1, .ref p2, .ref p3, .ref p4, .ref p5, .ref p6], ∃ (a : Addr) (qs r : List Int) (k : Int) (ws : List Tr) (u : Tr), x = .ref a ∧ SqT K H8 a (intV (qs ++ k :: r)) ∧ way (Tr.nd ("" : Str) [t1, .tx z, t2]) qs = some (ws ++ [u]) ∧ (k < 0 ∨ u.kids.length ≤ k.toNat) ∧ qs.length ≤ 50000 := by
    have w0 : way (Tr.nd ("" : Str) [t1, .tx z, t2]) [] = some ([] ++ [Tr.nd ("" : Str) [t1, .tx z, t2]]) := by rw [way]; rfl
    have w1 : way (Tr.nd ("" : Str) [t1, .tx z, t2]) [0] = some ([Tr.nd ("" : Str) [t1, .tx z, t2]] ++ [t1]) := way_mk (k := 0) rfl (by rw [way]; rfl)
    have w2 : way (Tr.nd ("" : Str) [t1, .tx z, t2]) [1] = some ([Tr.nd ("" : Str) [t1, .tx z, t2]] ++ [.tx z]) := way_mk (k := 1) rfl (by rw [way]; rfl)
    intro x hx
    simp only [List.mem_cons, List.not_mem_nil, or_false] at hx
    rcases hx with rfl | rfl | rfl | rfl | rfl | rfl
    · exact ⟨p1, [], [], _, _, _, rfl, SqT.of (s27 _ _ e1), w0, .inr (by show 3 ≤ _; omega), by decide⟩
    · exact ⟨p2, [1], [], 0, _, _, rfl, SqT.of (s37 _ _ e2), w2, .inr (Nat.le_refl _), by decide⟩
    · exact ⟨p3, [], [], -1, _, _, rfl, SqT.of (s47 _ _ e3), w0, .inl (by decide), by decide⟩
    · exact ⟨p4, [0], [], -1, _, _, rfl, SqT.of (s57 _ _ e4), w1, .inl (by decide), by decide⟩
    · exact ⟨p5, [], [], -4, _, _, rfl, SqT.of (s67 _ _ e5), w0, .inl (by decide), by decide⟩
    · exact ⟨p6, [], [], _, _, _, rfl, SqT.of (s7 _ _ e6), w0, .inl (by omega), by decide⟩
  clear e1 e2 e3 e4 e5 e6 s1 s2 s3 s4 s5 s6 s7 s67 s57 s47 s37 s27 h1 h2 h3 h4 h5 h6 hl
  let Pv1 : Nat → St → Hp → Prop := fun i σ H' => Same H8 H' ∧ ∃ (a6 : Option V), σ = [some (.ref sc), some (.ref d), some (.int c), some (.ref bk), some tv, a5, a6, a7, some (.int (1 + m))]
  refine any_forS (H0 := H8) (xs := [.ref p1, .ref p2, .ref p3, .ref p4, .ref p5, .ref p6]) (.inl (SqL.of e7)) (fun _ _ e => e) Pv1 ⟨fun _ _ e => e, _, rfl⟩ (fun i σ H' p => p.1) ?_ ?_
  · rintro i x σ H' hx ⟨s2, a6, rfl⟩
    obtain ⟨a, qs, r, k, ws, u, rfl, k1, k2, k3, k4⟩ := key x (List.mem_of_getElem? hx)
    walk_at "step"
    refine ⟨_, tv, _, a, qs, r, k, ws, u, rfl, Dv.same s2 _ _ ht8, s2.sqT k1, k2, k3, k4, fun H9 s9 => ?_⟩
    walk_at "step"
    refine iteF ?_
    exact ⟨Same.tr s2 s9, _, rfl⟩
  · rintro σ H' ⟨s2, a6, rfl⟩
    walk_at "step"
    exact q _
theorem law_F {t1 t2 : Tr} {z : Str} {a5 a6 a7 a8 : Option V} (B : Bkk K H d bk us rs) (r8 : rs.length ≤ 8) (BS : BkS rs) (ht : Dv K H (Tr.nd ("" : Str) [t1, .tx z, t2]).da tv) (hw : wt (Tr.nd ("" : Str) [t1, .tx z, t2]) ≤ 30000) (hh : hgt (Tr.nd ("" : Str) [t1, .tx z, t2]) ≤ 700) (q : ∀ H', D.rt (.bl true) H') :
    lawF K D [some (.ref sc), some (.ref d), some (.int c), some (.ref bk), some tv, a5, a6, a7, a8] H := by
  unfold lawF
  have e : ∃ t, t = Tr.nd ("" : Str) [t1, .tx z, t2] := ⟨_, rfl⟩
  obtain ⟨t, et⟩ := e
  rw [← et] at hw hh
  have ht0 := ht
  rw [← et] at ht
  walk_at "step"
  refine ⟨.ref bk, tv, rs, t, rfl, BS, B.rws, by omega, ht, hw, hh, fun p vs H1 s1 hp dvs => ?_⟩
  walk_at "step"
  have B1 := B.same s1
  have ht1 := Dv.same s1 _ _ ht
  have hfx : ∀ l : List (List Int × Option Str), fixs (l.map fD) = true := fun l => fixs_map fD_fix l
  let Pv2 : Nat → St → Hp → Prop := fun i σ H' => Same H1 H' ∧ ∃ (a5 a6 a7 : Option V), σ = [some (.ref sc), some (.ref d), some (.int c), some (.ref bk), some tv, a5, a6, a7, a8]
  refine any_forS (H0 := H1) (xs := vs) (.inl (SqL.of hp)) (fun _ _ e => e) Pv2 ⟨fun _ _ e => e, _, _, _, rfl⟩ (fun i σ H' p => p.1) ?_ ?_
  · rintro i x σ H' hx ⟨s2, a5, a6, a7, rfl⟩
    obtain ⟨dd, hd1, hd2⟩ := dvs.get' hx
    rw [List.getElem?_map] at hd1
    obtain ⟨y, hy, rfl⟩ := Option.map_eq_some_iff.mp hd1
    obtain ⟨a, bb, rfl, ha, hb⟩ := fD_parts hd2
    have hm := List.mem_of_getElem? hy
    obtain ⟨qq, k, ws, pp, u, f1, f2, f3, f4⟩ := ffk_root rs t y hm
    have hle : y.1.length ≤ 700 := by
      have : y.1 ∈ (pre [] t).map (·.1) := by rw [ffk_pre rs [] []]; exact List.mem_cons_of_mem _ (List.mem_map_of_mem hm)
      obtain ⟨p, hp, e⟩ := List.mem_map.mp this
      have := pre_h [] _ p hp
      simp at this
      rw [← e]; omega
    rw [f1, List.length_append] at hle
    rw [f1] at hb
    refine ⟨a, _, rfl, s2.sqT ha, rfl, _, _, rfl, st_name ⟨_, _, rfl, st_name ⟨rfl, ?_⟩⟩⟩
    walk_at "step"
    refine ⟨t, pp, u, .ref bk, tv, rs, bb, qq, k, ws, rfl, (B1.same s2).rws, Dv.same s2 _ _ ht1, s2.sqT hb, f2, f3, by omega, fun H4 s4 => ?_⟩
    rw [← f4]
    cases y.2 with
    | none =>
      rw [show oV none = V.non from rfl]
      walk_at "step"
      rw [decide_eq_true rfl]
      refine iteT ?_
      walk_at "step"
      rw [decide_eq_true rfl]
      refine iteF ?_
      walk_at "step"
      rw [decide_eq_true rfl]
      refine iteF ?_
      walk_at "step"
      exact ⟨Same.tr s2 s4, _, _, _, rfl⟩
    | some r =>
      rw [show oV (some r) = V.str r from rfl]
      walk_at "step"
      rw [decide_eq_false (by simp)]
      refine iteF ?_
      walk_at "step"
      rw [decide_eq_false (by simp)]
      refine iteT ?_
      walk_at "step"
      refine v_isi (.str _) (b := true) rfl ?_
      walk_at "step"
      refine iteF ?_
      walk_at "step"
      rw [decide_eq_true rfl]
      refine iteF ?_
      exact ⟨Same.tr s2 s4, _, _, _, rfl⟩
  · rintro σ H' ⟨s2, a5, a6, a7, rfl⟩
    exact law_X (B1.same s2) (Dv.same (Same.tr s1 s2) _ _ ht0) q
end
@[reducible] def T_law_6 (K : PySem.W.Frag) : TS :=
 (tSeq (tAsg (tTup (tCons (tC (.str ("" : Str))) (tCons (tTup (tCons (tCall (sp__law_tree K) [] E0 (tCons (tVar 1) (tCons (tVar 3) (tCons (tVar 2) (tCons (tC (.int 5)) tNil))))) (tCons (tCall (sp__law_text K) [] E0 (tCons (tVar 1) tNil)) (tCons (tCall (sp__law_tree K) [] E0 (tCons (tVar 1) (tCons (tVar 3) (tCons (tVar 2) (tCons (tC (.int 4)) tNil))))) tNil)))) tNil))) (gName 4))
 (lawF K))
@[reducible] def T_law_7 (K : PySem.W.Frag) : TS :=
 (tSeq (tAsg (tCall (sp__law_book K) [] E0 (tCons (tVar 1) (tCons (tVar 2) (tCons (tC (.int 8)) tNil)))) (gName 3))
 (T_law_6 K))
@[reducible] def T_law_8 (K : PySem.W.Frag) : TS :=
 (tSeq (tAsg (tCall (sp__law_draw K) [] E0 (tCons (tVar 1) (tCons (tOp (rI CPow fun i j => .int (i ^ j.toNat)) (tC (.int 10)) (tC (.int 6))) tNil))) (gName 2))
 (T_law_7 K))
def sp_law (K : PySem.W.Frag) : Sp := fun vs H Q _ => ∃ (a : Addr) (ns : List Int), vs = [.ref a] ∧ SqL K H a (ns.map V.int) ∧ ns.length ≤ 63 ∧ ∀ H', Q (.bl true) H'
theorem len_law (K : PySem.W.Frag) : ∀ vs H Q E, sp_law K vs H Q E → vs.length = ["_law_script"].length := by rintro vs H Q E ⟨a, b, rfl, _⟩; rfl
def R_law (K : PySem.W.Frag) : TS :=
 (tSeq (tAsg (tCall (sp__law_numbers K) [] E0 (tCons (tVar 0) (tCons (tC (.int 900)) tNil))) (gName 1))
 (T_law_8 K))
theorem rd_law (h : sp_law K vs H Q E) : R_law K { nx := fun _ H' => Q .non H', rt := Q } (start ["_law_script", "_law_deck", "_law_code", "_law_book_here", "_law_tree_here", "_law_rule", "_law_place", "_law_told", "_law_far"] vs) H := by
  obtain ⟨sc, ns, rfl, hS, hn, q⟩ := h
  show R_law K _ [some (.ref sc), none, none, none, none, none, none, none, none] H
  unfold R_law
  walk_at "step"
  refine ⟨sc, ns, 900, rfl, hS, by decide, fun d H1 s1 _ dk1 => ?_⟩
  walk_at "step"
  refine ⟨10, 6, rfl, rfl, ⟨by decide, by decide, by decide⟩, ?_⟩
  walk_at "step"
  refine ⟨d, _, rfl, by decide, by decide, dk1, fun c H2 c0 c1 mv2 => ?_⟩
  walk_at "step"
  refine ⟨d, c, 8, rfl, by decide, by decide, mv2.dk, fun bk us rs H3 mv3 hbk dvs r1 r8 BS => ?_⟩
  have B3 : Bkk K H3 d bk us rs := ⟨mv3.dk, SqT.of hbk, dvs⟩
  walk_at "step"
  refine ⟨d, bk, c, 5, us, rs, rfl, B3.dk, B3.hbk, B3.dvs, r1, by omega, by decide, fun t v H4 mv4 hd hw hh => ?_⟩
  have B4 := B3.mv mv4
  walk_at "step"
  refine ⟨d, rfl, B4.dk, fun z H5 mv5 z1 z9 => ?_⟩
  have B5 := B4.mv mv5
  have hd5 := Dv.tupK (mv5.tupK B4.dk) _ _ (da_fix t) hd
  walk_at "step"
  refine ⟨d, bk, c, 4, us, rs, rfl, B5.dk, B5.hbk, B5.dvs, r1, by omega, by decide, fun t' v' H6 mv6 hd' hw' hh' => ?_⟩
  have B6 := B5.mv mv6
  have hd6 := Dv.tupK (mv6.tupK B5.dk) _ _ (da_fix t) hd5
  walk_at "step"
  refine ⟨sl64 (by simp), fun x hx => ?_⟩
  walk_at "step"
  refine ⟨sl64 (by simp), fun y hy => ?_⟩
  have g1 := Same.new hx (.tup [v, .str z, v'])
  have g2 := Same.new hy (.tup [.str ("" : Str), .ref x])
  have gs := Same.tr g1 g2
  have hw : wt t ≤ 10240 := hw
  have hw' : wt t' ≤ 10240 := hw'
  have hT : Dv K (upd (upd H6 x (.tup [v, .str z, v'])) y (.tup [.str ("" : Str), .ref x])) (Tr.nd ("" : Str) [t, .tx z, t']).da (.ref y) := by
    refine da_nd (SqT.of upd_same) (SqT.of (g2 _ _ upd_same)) ?_
    rw [Tr.das, Tr.das, Tr.das, Tr.das]
    exact dvs_cons (Dv.same gs _ _ hd6) (dvs_cons (da_tx z) (dvs_cons (Dv.same gs _ _ hd') dvs_nil))
  walk_at "step"
  refine law_F (B6.same gs) r8 BS hT ?_ ?_ q
  · rw [wt, wts, wts, wts, wts, wt]; omega
  · rw [hgt, hgts, hgts, hgts, hgts, hgt]; omega
end My
namespace My
open PySem L2 PyProof.Rows
set_option maxHeartbeats 0
def top (i : Nat) : Stmt := PySem.Challenge.pw_tagmend_k23_faults_at_places.main.body.getD i (.Pass ⟨0, 0, 0, 0⟩)
abbrev s_row_of : Stmt := top 7
abbrev s_sort_of : Stmt := top 8
abbrev s_is_wall : Stmt := top 9
abbrev s_host_of : Stmt := top 10
abbrev s_frame_of : Stmt := top 11
abbrev s_is_text : Stmt := top 17
abbrev s_name_of : Stmt := top 18
abbrev s_parts_of : Stmt := top 19
abbrev s_part_at : Stmt := top 20
abbrev s_names_above : Stmt := top 21
abbrev s_way_to : Stmt := top 22
abbrev s_straight_above : Stmt := top 23
abbrev s_near_of : Stmt := top 24
abbrev s_fault_at : Stmt := top 27
abbrev s_follows_text : Stmt := top 28
abbrev s_text_fault : Stmt := top 29
abbrev s_tree_fault : Stmt := top 30
abbrev s_frame_fault : Stmt := top 31
abbrev s_near_fault : Stmt := top 32
abbrev s_share_a_name : Stmt := top 33
abbrev s__law_numbers : Stmt := top 35
abbrev s__law_draw : Stmt := top 36
abbrev s__law_name : Stmt := top 37
abbrev s__law_sorts : Stmt := top 38
abbrev s__law_some : Stmt := top 39
abbrev s__law_book : Stmt := top 40
abbrev s__law_text : Stmt := top 41
abbrev s__law_tree : Stmt := top 42
abbrev s__law_walk : Stmt := top 43
abbrev s__law_row : Stmt := top 44
abbrev s__law_near : Stmt := top 45
abbrev s__law_fault : Stmt := top 46
abbrev s__law_faults : Stmt := top 47
abbrev s__law_no_place : Stmt := top 48
abbrev s_law : Stmt := top 49
set_option genInjectivity false in
set_option genSizeOf false in
structure Adr where
  a_row_of : Addr
  d_row_of : FuncData
  a_sort_of : Addr
  d_sort_of : FuncData
  a_is_wall : Addr
  d_is_wall : FuncData
  a_host_of : Addr
  d_host_of : FuncData
  a_frame_of : Addr
  d_frame_of : FuncData
  a_is_text : Addr
  d_is_text : FuncData
  a_name_of : Addr
  d_name_of : FuncData
  a_parts_of : Addr
  d_parts_of : FuncData
  a_part_at : Addr
  d_part_at : FuncData
  a_names_above : Addr
  d_names_above : FuncData
  a_way_to : Addr
  d_way_to : FuncData
  a_straight_above : Addr
  d_straight_above : FuncData
  a_near_of : Addr
  d_near_of : FuncData
  a_fault_at : Addr
  d_fault_at : FuncData
  a_follows_text : Addr
  d_follows_text : FuncData
  a_text_fault : Addr
  d_text_fault : FuncData
  a_tree_fault : Addr
  d_tree_fault : FuncData
  a_frame_fault : Addr
  d_frame_fault : FuncData
  a_near_fault : Addr
  d_near_fault : FuncData
  a_share_a_name : Addr
  d_share_a_name : FuncData
  a__law_numbers : Addr
  d__law_numbers : FuncData
  a__law_draw : Addr
  d__law_draw : FuncData
  a__law_name : Addr
  d__law_name : FuncData
  a__law_sorts : Addr
  d__law_sorts : FuncData
  a__law_some : Addr
  d__law_some : FuncData
  a__law_book : Addr
  d__law_book : FuncData
  a__law_text : Addr
  d__law_text : FuncData
  a__law_tree : Addr
  d__law_tree : FuncData
  a__law_walk : Addr
  d__law_walk : FuncData
  a__law_row : Addr
  d__law_row : FuncData
  a__law_near : Addr
  d__law_near : FuncData
  a__law_fault : Addr
  d__law_fault : FuncData
  a__law_faults : Addr
  d__law_faults : FuncData
  a__law_no_place : Addr
  d__law_no_place : FuncData
  a_law : Addr
  d_law : FuncData
  c_WALL_SORTS : Addr
  v_NAME : Value
  v_SORT : Value
  v_HOST : Value
  v_SHUTS : Value
  v_BARS : Value
  v_ROOT_NAME : Value
  v_MOST_ABOVE : Value
  k_NoPlace : Addr
structure Txt (K : PySem.W.Frag) (mg : Str → Option Value) (t : Adr) : Prop where
  F_row_of : Fun K "row_of" "row_of" s_row_of t.a_row_of t.d_row_of
  b_row_of : Binds K t.d_row_of ["rows", "name"] []
  m_row_of : mg "row_of" = some (.ref t.a_row_of)
  F_sort_of : Fun K "sort_of" "sort_of" s_sort_of t.a_sort_of t.d_sort_of
  b_sort_of : Binds K t.d_sort_of ["book", "name"] []
  m_sort_of : mg "sort_of" = some (.ref t.a_sort_of)
  F_is_wall : Fun K "is_wall" "is_wall" s_is_wall t.a_is_wall t.d_is_wall
  b_is_wall : Binds K t.d_is_wall ["book", "name"] []
  m_is_wall : mg "is_wall" = some (.ref t.a_is_wall)
  F_host_of : Fun K "host_of" "host_of" s_host_of t.a_host_of t.d_host_of
  b_host_of : Binds K t.d_host_of ["book", "name"] []
  m_host_of : mg "host_of" = some (.ref t.a_host_of)
  F_frame_of : Fun K "frame_of" "frame_of" s_frame_of t.a_frame_of t.d_frame_of
  b_frame_of : Binds K t.d_frame_of ["book", "name"] []
  m_frame_of : mg "frame_of" = some (.ref t.a_frame_of)
  F_is_text : Fun K "is_text" "is_text" s_is_text t.a_is_text t.d_is_text
  b_is_text : Binds K t.d_is_text ["part"] []
  m_is_text : mg "is_text" = some (.ref t.a_is_text)
  F_name_of : Fun K "name_of" "name_of" s_name_of t.a_name_of t.d_name_of
  b_name_of : Binds K t.d_name_of ["tree"] []
  m_name_of : mg "name_of" = some (.ref t.a_name_of)
  F_parts_of : Fun K "parts_of" "parts_of" s_parts_of t.a_parts_of t.d_parts_of
  b_parts_of : Binds K t.d_parts_of ["part"] []
  m_parts_of : mg "parts_of" = some (.ref t.a_parts_of)
  F_part_at : Fun K "part_at" "part_at" s_part_at t.a_part_at t.d_part_at
  b_part_at : Binds K t.d_part_at ["tree", "place"] []
  m_part_at : mg "part_at" = some (.ref t.a_part_at)
  F_names_above : Fun K "names_above" "names_above" s_names_above t.a_names_above t.d_names_above
  b_names_above : Binds K t.d_names_above ["tree", "place"] []
  m_names_above : mg "names_above" = some (.ref t.a_names_above)
  F_way_to : Fun K "way_to" "way_to" s_way_to t.a_way_to t.d_way_to
  b_way_to : Binds K t.d_way_to ["tree", "place"] []
  m_way_to : mg "way_to" = some (.ref t.a_way_to)
  F_straight_above : Fun K "straight_above" "straight_above" s_straight_above t.a_straight_above t.d_straight_above
  b_straight_above : Binds K t.d_straight_above ["names"] []
  m_straight_above : mg "straight_above" = some (.ref t.a_straight_above)
  F_near_of : Fun K "near_of" "near_of" s_near_of t.a_near_of t.d_near_of
  b_near_of : Binds K t.d_near_of ["book", "names"] []
  m_near_of : mg "near_of" = some (.ref t.a_near_of)
  F_fault_at : Fun K "fault_at" "fault_at" s_fault_at t.a_fault_at t.d_fault_at
  b_fault_at : Binds K t.d_fault_at ["book", "tree", "place"] []
  m_fault_at : mg "fault_at" = some (.ref t.a_fault_at)
  F_follows_text : Fun K "follows_text" "follows_text" s_follows_text t.a_follows_text t.d_follows_text
  b_follows_text : Binds K t.d_follows_text ["tree", "place"] []
  m_follows_text : mg "follows_text" = some (.ref t.a_follows_text)
  F_text_fault : Fun K "text_fault" "text_fault" s_text_fault t.a_text_fault t.d_text_fault
  b_text_fault : Binds K t.d_text_fault ["book", "names", "text", "beside"] []
  m_text_fault : mg "text_fault" = some (.ref t.a_text_fault)
  F_tree_fault : Fun K "tree_fault" "tree_fault" s_tree_fault t.a_tree_fault t.d_tree_fault
  b_tree_fault : Binds K t.d_tree_fault ["book", "names", "tree"] []
  m_tree_fault : mg "tree_fault" = some (.ref t.a_tree_fault)
  F_frame_fault : Fun K "frame_fault" "frame_fault" s_frame_fault t.a_frame_fault t.d_frame_fault
  b_frame_fault : Binds K t.d_frame_fault ["book", "names", "name"] []
  m_frame_fault : mg "frame_fault" = some (.ref t.a_frame_fault)
  F_near_fault : Fun K "near_fault" "near_fault" s_near_fault t.a_near_fault t.d_near_fault
  b_near_fault : Binds K t.d_near_fault ["book", "names", "name"] []
  m_near_fault : mg "near_fault" = some (.ref t.a_near_fault)
  F_share_a_name : Fun K "share_a_name" "share_a_name" s_share_a_name t.a_share_a_name t.d_share_a_name
  b_share_a_name : Binds K t.d_share_a_name ["names", "others"] []
  m_share_a_name : mg "share_a_name" = some (.ref t.a_share_a_name)
  F__law_numbers : Fun K "_law_numbers" "_law_numbers" s__law_numbers t.a__law_numbers t.d__law_numbers
  b__law_numbers : Binds K t.d__law_numbers ["_law_script", "_law_most"] []
  m__law_numbers : mg "_law_numbers" = some (.ref t.a__law_numbers)
  F__law_draw : Fun K "_law_draw" "_law_draw" s__law_draw t.a__law_draw t.d__law_draw
  b__law_draw : Binds K t.d__law_draw ["_law_deck", "_law_most"] []
  m__law_draw : mg "_law_draw" = some (.ref t.a__law_draw)
  F__law_name : Fun K "_law_name" "_law_name" s__law_name t.a__law_name t.d__law_name
  b__law_name : Binds K t.d__law_name ["_law_code", "_law_k"] []
  m__law_name : mg "_law_name" = some (.ref t.a__law_name)
  F__law_sorts : Fun K "_law_sorts" "_law_sorts" s__law_sorts t.a__law_sorts t.d__law_sorts
  b__law_sorts : Binds K t.d__law_sorts ["_law_deck", "_law_count"] []
  m__law_sorts : mg "_law_sorts" = some (.ref t.a__law_sorts)
  F__law_some : Fun K "_law_some" "_law_some" s__law_some t.a__law_some t.d__law_some
  b__law_some : Binds K t.d__law_some ["_law_deck", "_law_names"] []
  m__law_some : mg "_law_some" = some (.ref t.a__law_some)
  F__law_book : Fun K "_law_book" "_law_book" s__law_book t.a__law_book t.d__law_book
  b__law_book : Binds K t.d__law_book ["_law_deck", "_law_code", "_law_most"] []
  m__law_book : mg "_law_book" = some (.ref t.a__law_book)
  F__law_text : Fun K "_law_text" "_law_text" s__law_text t.a__law_text t.d__law_text
  b__law_text : Binds K t.d__law_text ["_law_deck"] []
  m__law_text : mg "_law_text" = some (.ref t.a__law_text)
  F__law_tree : Fun K "_law_tree" "_law_tree" s__law_tree t.a__law_tree t.d__law_tree
  b__law_tree : Binds K t.d__law_tree ["_law_deck", "_law_book_here", "_law_code", "_law_deep"] []
  m__law_tree : mg "_law_tree" = some (.ref t.a__law_tree)
  F__law_walk : Fun K "_law_walk" "_law_walk" s__law_walk t.a__law_walk t.d__law_walk
  b__law_walk : Binds K t.d__law_walk ["_law_tree_here"] []
  m__law_walk : mg "_law_walk" = some (.ref t.a__law_walk)
  F__law_row : Fun K "_law_row" "_law_row" s__law_row t.a__law_row t.d__law_row
  b__law_row : Binds K t.d__law_row ["_law_book_here", "_law_name_here"] []
  m__law_row : mg "_law_row" = some (.ref t.a__law_row)
  F__law_near : Fun K "_law_near" "_law_near" s__law_near t.a__law_near t.d__law_near
  b__law_near : Binds K t.d__law_near ["_law_book_here", "_law_names"] []
  m__law_near : mg "_law_near" = some (.ref t.a__law_near)
  F__law_fault : Fun K "_law_fault" "_law_fault" s__law_fault t.a__law_fault t.d__law_fault
  b__law_fault : Binds K t.d__law_fault ["_law_book_here", "_law_names", "_law_part", "_law_ahead"] []
  m__law_fault : mg "_law_fault" = some (.ref t.a__law_fault)
  F__law_faults : Fun K "_law_faults" "_law_faults" s__law_faults t.a__law_faults t.d__law_faults
  b__law_faults : Binds K t.d__law_faults ["_law_book_here", "_law_tree_here"] []
  m__law_faults : mg "_law_faults" = some (.ref t.a__law_faults)
  F__law_no_place : Fun K "_law_no_place" "_law_no_place" s__law_no_place t.a__law_no_place t.d__law_no_place
  b__law_no_place : Binds K t.d__law_no_place ["_law_book_here", "_law_tree_here", "_law_place"] []
  m__law_no_place : mg "_law_no_place" = some (.ref t.a__law_no_place)
  F_law : Fun K "law" "law" s_law t.a_law t.d_law
  b_law : Binds K t.d_law ["_law_script"] []
  m_law : mg "law" = some (.ref t.a_law)
  g_WALL_SORTS : mg "WALL_SORTS" = some (.ref t.c_WALL_SORTS)
  q_WALL_SORTS : ∀ H : Hp, SqT K H t.c_WALL_SORTS [.str ("room" : Str), .str ("frame" : Str)]
  g_NAME : mg "NAME" = some t.v_NAME ∧ RelV (.int 0) t.v_NAME
  g_SORT : mg "SORT" = some t.v_SORT ∧ RelV (.int 1) t.v_SORT
  g_HOST : mg "HOST" = some t.v_HOST ∧ RelV (.int 2) t.v_HOST
  g_SHUTS : mg "SHUTS" = some t.v_SHUTS ∧ RelV (.int 3) t.v_SHUTS
  g_BARS : mg "BARS" = some t.v_BARS ∧ RelV (.int 4) t.v_BARS
  g_ROOT_NAME : mg "ROOT_NAME" = some t.v_ROOT_NAME ∧ RelV (.str ("" : Str)) t.v_ROOT_NAME
  g_MOST_ABOVE : mg "MOST_ABOVE" = some t.v_MOST_ABOVE ∧ RelV (.int 19) t.v_MOST_ABOVE
  z_any : mg "any" = none
  z_enumerate : mg "enumerate" = none
  z_int : mg "int" = none
  z_isinstance : mg "isinstance" = none
  z_len : mg "len" = none
  z_list : mg "list" = none
  z_range : mg "range" = none
  z_sorted : mg "sorted" = none
  z_str : mg "str" = none
  z_sum : mg "sum" = none
  z_tuple : mg "tuple" = none
  x_NoPlace : OwnX K mg "NoPlace" t.k_NoPlace
  y_NoPlace_NoPlace : PySem.W.exmOne K (.ref t.k_NoPlace) (.ref t.k_NoPlace) = some true
section
variable {P : Program} {w : World} {K : PySem.W.Frag} {mg : Str → Option Value} {base : Heap} {t : Adr}
theorem sc_row_of : FnScope ["rows", "name", "row"] ["rows", "name"] (defScope s_row_of) := ⟨rfl, rfl, rfl, by decide +kernel, rfl, by decide +kernel, by decide +kernel⟩
theorem sc_sort_of : FnScope ["book", "name", "row"] ["book", "name"] (defScope s_sort_of) := ⟨rfl, rfl, rfl, by decide +kernel, rfl, by decide +kernel, by decide +kernel⟩
theorem sc_is_wall : FnScope ["book", "name"] ["book", "name"] (defScope s_is_wall) := ⟨rfl, rfl, rfl, by decide +kernel, rfl, by decide +kernel, by decide +kernel⟩
theorem sc_host_of : FnScope ["book", "name", "row"] ["book", "name"] (defScope s_host_of) := ⟨rfl, rfl, rfl, by decide +kernel, rfl, by decide +kernel, by decide +kernel⟩
theorem sc_frame_of : FnScope ["book", "name", "row"] ["book", "name"] (defScope s_frame_of) := ⟨rfl, rfl, rfl, by decide +kernel, rfl, by decide +kernel, by decide +kernel⟩
theorem sc_is_text : FnScope ["part"] ["part"] (defScope s_is_text) := ⟨rfl, rfl, rfl, by decide +kernel, rfl, by decide +kernel, by decide +kernel⟩
theorem sc_name_of : FnScope ["tree"] ["tree"] (defScope s_name_of) := ⟨rfl, rfl, rfl, by decide +kernel, rfl, by decide +kernel, by decide +kernel⟩
theorem sc_parts_of : FnScope ["part"] ["part"] (defScope s_parts_of) := ⟨rfl, rfl, rfl, by decide +kernel, rfl, by decide +kernel, by decide +kernel⟩
theorem sc_part_at : FnScope ["tree", "place"] ["tree", "place"] (defScope s_part_at) := ⟨rfl, rfl, rfl, by decide +kernel, rfl, by decide +kernel, by decide +kernel⟩
theorem sc_names_above : FnScope ["tree", "place"] ["tree", "place"] (defScope s_names_above) := ⟨rfl, rfl, rfl, by decide +kernel, rfl, by decide +kernel, by decide +kernel⟩
theorem sc_way_to : FnScope ["tree", "place", "way", "number", "parts"] ["tree", "place"] (defScope s_way_to) := ⟨rfl, rfl, rfl, by decide +kernel, rfl, by decide +kernel, by decide +kernel⟩
theorem sc_straight_above : FnScope ["names"] ["names"] (defScope s_straight_above) := ⟨rfl, rfl, rfl, by decide +kernel, rfl, by decide +kernel, by decide +kernel⟩
theorem sc_near_of : FnScope ["book", "names", "start", "number", "name"] ["book", "names"] (defScope s_near_of) := ⟨rfl, rfl, rfl, by decide +kernel, rfl, by decide +kernel, by decide +kernel⟩
theorem sc_fault_at : FnScope ["book", "tree", "place", "part", "names"] ["book", "tree", "place"] (defScope s_fault_at) := ⟨rfl, rfl, rfl, by decide +kernel, rfl, by decide +kernel, by decide +kernel⟩
theorem sc_follows_text : FnScope ["tree", "place", "number"] ["tree", "place"] (defScope s_follows_text) := ⟨rfl, rfl, rfl, by decide +kernel, rfl, by decide +kernel, by decide +kernel⟩
theorem sc_text_fault : FnScope ["book", "names", "text", "beside"] ["book", "names", "text", "beside"] (defScope s_text_fault) := ⟨rfl, rfl, rfl, by decide +kernel, rfl, by decide +kernel, by decide +kernel⟩
theorem sc_tree_fault : FnScope ["book", "names", "tree", "sort"] ["book", "names", "tree"] (defScope s_tree_fault) := ⟨rfl, rfl, rfl, by decide +kernel, rfl, by decide +kernel, by decide +kernel⟩
theorem sc_frame_fault : FnScope ["book", "names", "name", "above", "host", "frame"] ["book", "names", "name"] (defScope s_frame_fault) := ⟨rfl, rfl, rfl, by decide +kernel, rfl, by decide +kernel, by decide +kernel⟩
theorem sc_near_fault : FnScope ["book", "names", "name", "row", "near"] ["book", "names", "name"] (defScope s_near_fault) := ⟨rfl, rfl, rfl, by decide +kernel, rfl, by decide +kernel, by decide +kernel⟩
theorem sc_share_a_name : FnScope ["names", "others"] ["names", "others"] (defScope s_share_a_name) := ⟨rfl, rfl, rfl, by decide +kernel, rfl, by decide +kernel, by decide +kernel⟩
theorem sc__law_numbers : FnScope ["_law_script", "_law_most", "_law_deck", "_law_kind", "_law_last"] ["_law_script", "_law_most"] (defScope s__law_numbers) := ⟨rfl, rfl, rfl, by decide +kernel, rfl, by decide +kernel, by decide +kernel⟩
theorem sc__law_draw : FnScope ["_law_deck", "_law_most", "_law_number"] ["_law_deck", "_law_most"] (defScope s__law_draw) := ⟨rfl, rfl, rfl, by decide +kernel, rfl, by decide +kernel, by decide +kernel⟩
theorem sc__law_name : FnScope ["_law_code", "_law_k", "_law_letters", "_law_first", "_law_long", "_law_told", "_law_name_here", "_law_j", "_law_step"] ["_law_code", "_law_k"] (defScope s__law_name) := ⟨rfl, rfl, rfl, by decide +kernel, rfl, by decide +kernel, by decide +kernel⟩
theorem sc__law_sorts : FnScope ["_law_deck", "_law_count", "_law_kinds", "_law_sorts_here", "_law_hosts", "_law_k", "_law_free"] ["_law_deck", "_law_count"] (defScope s__law_sorts) := ⟨rfl, rfl, rfl, by decide +kernel, rfl, by decide +kernel, by decide +kernel⟩
theorem sc__law_some : FnScope ["_law_deck", "_law_names", "_law_some_here", "_law_name_here"] ["_law_deck", "_law_names"] (defScope s__law_some) := ⟨rfl, rfl, rfl, by decide +kernel, rfl, by decide +kernel, by decide +kernel⟩
theorem sc__law_book : FnScope ["_law_deck", "_law_code", "_law_most", "_law_count", "_law_sorts_here", "_law_hosts", "_law_names", "_law_soft", "_law_may_shut", "_law_book_here", "_law_k", "_law_shuts", "_law_host", "_law_row_here"] ["_law_deck", "_law_code", "_law_most"] (defScope s__law_book) := ⟨rfl, rfl, rfl, by decide +kernel, rfl, by decide +kernel, by decide +kernel⟩
theorem sc__law_text : FnScope ["_law_deck", "_law_signs"] ["_law_deck"] (defScope s__law_text) := ⟨rfl, rfl, rfl, by decide +kernel, rfl, by decide +kernel, by decide +kernel⟩
theorem sc__law_tree : FnScope ["_law_deck", "_law_book_here", "_law_code", "_law_deep", "_law_name_here", "_law_parts", "_law_k"] ["_law_deck", "_law_book_here", "_law_code", "_law_deep"] (defScope s__law_tree) := ⟨rfl, rfl, rfl, by decide +kernel, rfl, by decide +kernel, by decide +kernel⟩
theorem sc__law_walk : FnScope ["_law_tree_here", "_law_found", "_law_todo", "_law_place", "_law_names", "_law_part", "_law_above"] ["_law_tree_here"] (defScope s__law_walk) := ⟨rfl, rfl, rfl, by decide +kernel, rfl, by decide +kernel, by decide +kernel⟩
theorem sc__law_row : FnScope ["_law_book_here", "_law_name_here", "_law_row_here"] ["_law_book_here", "_law_name_here"] (defScope s__law_row) := ⟨rfl, rfl, rfl, by decide +kernel, rfl, by decide +kernel, by decide +kernel⟩
theorem sc__law_near : FnScope ["_law_book_here", "_law_names", "_law_near_here", "_law_k"] ["_law_book_here", "_law_names"] (defScope s__law_near) := ⟨rfl, rfl, rfl, by decide +kernel, rfl, by decide +kernel, by decide +kernel⟩
theorem sc__law_fault : FnScope ["_law_book_here", "_law_names", "_law_part", "_law_ahead", "_law_above", "_law_frame", "_law_name_here", "_law_sort", "_law_host", "_law_shuts", "_law_bars", "_law_frames", "_law_near_here"] ["_law_book_here", "_law_names", "_law_part", "_law_ahead"] (defScope s__law_fault) := ⟨rfl, rfl, rfl, by decide +kernel, rfl, by decide +kernel, by decide +kernel⟩
theorem sc__law_faults : FnScope ["_law_book_here", "_law_tree_here", "_law_due", "_law_walked", "_law_parts", "_law_place", "_law_names", "_law_part", "_law_ahead"] ["_law_book_here", "_law_tree_here"] (defScope s__law_faults) := ⟨rfl, rfl, rfl, by decide +kernel, rfl, by decide +kernel, by decide +kernel⟩
theorem sc__law_no_place : FnScope ["_law_book_here", "_law_tree_here", "_law_place", "_law_refused"] ["_law_book_here", "_law_tree_here", "_law_place"] (defScope s__law_no_place) := ⟨rfl, rfl, rfl, by decide +kernel, rfl, by decide +kernel, by decide +kernel⟩
theorem sc_law : FnScope ["_law_script", "_law_deck", "_law_code", "_law_book_here", "_law_tree_here", "_law_rule", "_law_place", "_law_told", "_law_far"] ["_law_script"] (defScope s_law) := ⟨rfl, rfl, rfl, by decide +kernel, rfl, by decide +kernel, by decide +kernel⟩
theorem ok_row_of (T : Txt K mg t) : FnOk P w K mg base CX0 1 t.a_row_of t.d_row_of ["rows", "name"] (sp_row_of K) := by
  refine T.F_row_of.ok sc_row_of (len_row_of K) (fun cdv A outer s H vs Q E hr h => ⟨R_row_of K, ?_, rd_row_of h⟩)
  have S := sc_row_of
  refine pss_cons ?_ ?_
  · refine ps_for PassesOwn.never rfl ?_ ?_ ?_
    · exact (pi_any (pv 0))
    · exact (pg_name (i := 2) S.nd rfl (Or.inl rfl))
    · refine pss_one ?_
      refine ps_if ?_ ?_ ?_
      · exact (pt_cmpR (op_eqA (u190 hr)) (pe_ix (ix_any' (hu_of hr)) (pv 2) (pe_glob rfl T.g_NAME.1 T.g_NAME.2) (fun _ _ => rfl)) (pv 1) (nomark _))
      · refine pss_one ?_
        exact (ps_ret (pv 2))
      · exact pss_nil
  refine pss_one ?_
  exact (ps_ret pe_non)
theorem ok_frame_of (T : Txt K mg t) : FnOk P w K mg base CX0 1 t.a_frame_of t.d_frame_of ["book", "name"] (sp_frame_of K) := by
  refine T.F_frame_of.ok sc_frame_of (len_frame_of K) (fun cdv A outer s H vs Q E hr h => ⟨R_frame_of K, ?_, rd_frame_of h⟩)
  have S := sc_frame_of
  refine pss_cons ?_ ?_
  · refine ps_for PassesOwn.never rfl ?_ ?_ ?_
    · exact (pi_any (pv 0))
    · exact (pg_name (i := 2) S.nd rfl (Or.inl rfl))
    · refine pss_one ?_
      refine ps_if ?_ ?_ ?_
      · exact (PW.pt (pw_and (pt_cmpR (op_eqA (u190 hr)) (pe_ix (ix_any' (hu_of hr)) (pv 2) (pe_glob rfl T.g_SORT.1 T.g_SORT.2) (fun _ _ => rfl)) pe_str (nomark _)) (pw_and1 (pt_cmpR (op_eqA (u190 hr)) (pe_ix (ix_any' (hu_of hr)) (pv 2) (pe_glob rfl T.g_HOST.1 T.g_HOST.2) (fun _ _ => rfl)) (pv 1) (nomark _)))))
      · refine pss_one ?_
        exact (ps_ret (pe_ix (ix_any' (hu_of hr)) (pv 2) (pe_glob rfl T.g_NAME.1 T.g_NAME.2) (fun _ _ => rfl)))
      · exact pss_nil
  refine pss_one ?_
  exact (ps_ret pe_non)
theorem ok_is_text (T : Txt K mg t) : FnOk P w K mg base CX0 1 t.a_is_text t.d_is_text ["part"] (sp_is_text K) := by
  refine T.F_is_text.ok sc_is_text (len_is_text K) (fun cdv A outer s H vs Q E hr h => ⟨R_is_text K, ?_, rd_is_text h⟩)
  have S := sc_is_text
  refine pss_one ?_
  exact (ps_ret (pe_callB call_isinstanceA rfl T.z_isinstance boot_isinstance (pa_cons (pv 0) (pa_cons (pe_bltn rfl T.z_str boot_str rfl) pa_nil))))
theorem ok_name_of (T : Txt K mg t) : FnOk P w K mg base CX0 1 t.a_name_of t.d_name_of ["tree"] (sp_name_of K) := by
  refine T.F_name_of.ok sc_name_of (len_name_of K) (fun cdv A outer s H vs Q E hr h => ⟨R_name_of K, ?_, rd_name_of h⟩)
  have S := sc_name_of
  refine pss_one ?_
  exact (ps_ret (pe_ix (ix_any' (hu_of hr)) (pv 0) pe_int (fun _ _ => rfl)))
theorem ok_straight_above (T : Txt K mg t) : FnOk P w K mg base CX0 1 t.a_straight_above t.d_straight_above ["names"] (sp_straight_above K) := by
  refine T.F_straight_above.ok sc_straight_above (len_straight_above K) (fun cdv A outer s H vs Q E hr h => ⟨R_straight_above K, ?_, rd_straight_above h⟩)
  have S := sc_straight_above
  refine pss_one ?_
  exact (ps_ret (pe_ifExp (pt_cmpR op_gtA (pe_callB call_lenA rfl T.z_len boot_len (pa_cons (pv 0) pa_nil)) pe_int (nomark _)) (pe_ix (ix_any' (hu_of hr)) (pv 0) (pe_un un_neg pe_int) (fun _ _ => rfl)) (pe_glob rfl T.g_ROOT_NAME.1 T.g_ROOT_NAME.2)))
theorem ok_share_a_name (T : Txt K mg t) : FnOk P w K mg base CX0 1 t.a_share_a_name t.d_share_a_name ["names", "others"] (sp_share_a_name K) := by
  refine T.F_share_a_name.ok sc_share_a_name (len_share_a_name K) (fun cdv A outer s H vs Q E hr h => ⟨R_share_a_name K, ?_, rd_share_a_name h⟩)
  have S := sc_share_a_name
  refine pss_one ?_
  refine ps_ret ?_
  exact (pe_callB (call_anyA rfl) rfl T.z_any boot_any (pa_cons (pe_comp rfl (comp_scope (osc := defScope s_share_a_name) (ON := ["names", "others"]) (N := ["others", "name"]) (fr := [some 1, none]) (by decide +kernel) rfl rfl) (pi_any (pv 0)) (fun _ _ _ _ _ _ => (pg_name (i := 1) (show List.Nodup (["others", "name"] : List Str) by decide +kernel) rfl (Or.inl rfl))) tg_name (fun _ _ _ _ _ _ => pts_nil) (fun _ _ _ _ _ _ => (pe_cmpR (op_inB (hu_of hr)) (pv 1) (pv 0) (by with_unfolding_all rfl)))) pa_nil))
theorem ok__law_numbers (T : Txt K mg t) : FnOk P w K mg base CX0 1 t.a__law_numbers t.d__law_numbers ["_law_script", "_law_most"] (sp__law_numbers K) := by
  refine T.F__law_numbers.ok sc__law_numbers (len__law_numbers K) (fun cdv A outer s H vs Q E hr h => ⟨R__law_numbers K, ?_, rd__law_numbers h⟩)
  have S := sc__law_numbers
  refine pss_cons ?_ ?_
  · refine ps_set (i := 2) ?_ ?_ ?_ ?_ ?_ ?_
    · exact S.nd
    · exact rfl
    · exact (Or.inl rfl)
    · exact (pe_callTy call_listA rfl T.z_list boot_list (pa_cons (pe_slice sl_any (pv 0) po_none (po_some pe_int)) pa_nil))
    · rfl
    · walk_at "or"
  refine pss_cons ?_ ?_
  · refine ps_set (i := 3) ?_ ?_ ?_ ?_ ?_ ?_
    · exact S.nd
    · exact rfl
    · exact (Or.inl rfl)
    · exact pe_int
    · rfl
    · walk_at "or"
  refine pss_cons ?_ ?_
  · refine ps_if ?_ ?_ ?_
    · exact (pt_cmpR (op_neA (u190 hr)) (pv 2) (pe_lst pa_nil) (nomark _))
    · refine pss_cons ?_ ?_
      · refine ps_set (i := 3) ?_ ?_ ?_ ?_ ?_ ?_
        · exact S.nd
        · exact rfl
        · exact (Or.inl rfl)
        · exact (pe_op op_mod (pe_ix (ix_any' (hu_of hr)) (pv 2) pe_int (fun _ _ => rfl)) pe_int)
        · rfl
        · walk_at "or"
      refine pss_one ?_
      exact (ps_asg (pe_op op_fdiv (pe_ix (ix_any' (hu_of hr)) (pv 2) pe_int (fun _ _ => rfl)) pe_int) (pg_sub (pv 2) pe_int (set_any' (hu_of hr))))
    · exact pss_nil
  refine pss_cons ?_ ?_
  · refine ps_set (i := 4) ?_ ?_ ?_ ?_ ?_ ?_
    · exact S.nd
    · exact rfl
    · exact (Or.inl rfl)
    · exact (pe_op op_addA pe_int (pe_op op_mod (pe_callB (call_sumA rfl) rfl T.z_sum boot_sum (pa_cons (pv 2) pa_nil)) pe_int))
    · rfl
    · walk_at "or"
  refine pss_cons ?_ ?_
  · refine ps_while PassesOwn.never ?_ ?_
    · exact (pt_cmpR op_ltA (pe_callB call_lenA rfl T.z_len boot_len (pa_cons (pv 2) pa_nil)) (pv 1) (nomark _))
    · refine pss_cons ?_ ?_
      · refine ps_set (i := 4) ?_ ?_ ?_ ?_ ?_ ?_
        · exact S.nd
        · exact rfl
        · exact (Or.inl rfl)
        · exact (pe_op op_mod (pe_op op_addA (pe_op op_addA (pe_op op_mulA (pv 4) (pv 4)) (pe_op op_mulA pe_int (pv 4))) (pe_callB call_lenA rfl T.z_len boot_len (pa_cons (pv 2) pa_nil))) pe_int)
        · rfl
        · walk_at "or"
      refine pss_cons ?_ ?_
      · refine ps_set (i := 4) ?_ ?_ ?_ ?_ ?_ ?_
        · exact S.nd
        · exact rfl
        · exact (Or.inl rfl)
        · exact (pe_op op_mod (pe_op op_addA (pe_op op_addA (pe_op op_mulA (pv 4) (pv 4)) (pe_op op_mulA pe_int (pv 4))) pe_int) pe_int)
        · rfl
        · walk_at "or"
      refine pss_one ?_
      exact (ps_expr (pe_bm PySem.F.plainAttrs_list PySem.F.slot_list_append PySem.F.type_list_append mt_append (pv 2) (pa_cons (pv 4) pa_nil)))
  refine pss_one ?_
  exact (ps_ret (pe_op op_addA (pe_lst (pa_cons (pv 3) pa_nil)) (pe_rev3 (pv 2) (pe_un un_neg pe_int))))
theorem ok__law_draw (T : Txt K mg t) : FnOk P w K mg base CX0 1 t.a__law_draw t.d__law_draw ["_law_deck", "_law_most"] (sp__law_draw K) := by
  refine T.F__law_draw.ok sc__law_draw (len__law_draw K) (fun cdv A outer s H vs Q E hr h => ⟨R__law_draw K, ?_, rd__law_draw h⟩)
  have S := sc__law_draw
  refine pss_cons ?_ ?_
  · refine ps_if ?_ ?_ ?_
    · exact (pt_cmpR (op_eqA (u190 hr)) (pe_callB call_lenA rfl T.z_len boot_len (pa_cons (pv 0) pa_nil)) pe_int (nomark _))
    · refine pss_one ?_
      exact (ps_ret pe_int)
    · exact pss_nil
  refine pss_cons ?_ ?_
  · refine ps_set (i := 2) ?_ ?_ ?_ ?_ ?_ ?_
    · exact S.nd
    · exact rfl
    · exact (Or.inl rfl)
    · exact (pe_bm0 PySem.F.plainAttrs_list PySem.F.slot_list_pop PySem.F.type_list_pop mt_pop (pv 0))
    · rfl
    · walk_at "or"
  refine pss_cons ?_ ?_
  · refine ps_if ?_ ?_ ?_
    · exact (PW.pt (pw_and (pt_cmpR (op_eqA (u190 hr)) (pe_ix (ix_any' (hu_of hr)) (pv 0) pe_int (fun _ _ => rfl)) pe_int (nomark _)) (pw_and1 (pt_cmpR (op_neA (u190 hr)) (pe_op op_fdivW (pv 2) (pv 1)) pe_int (nomark _)))))
    · refine pss_one ?_
      exact (ps_expr (pe_bm PySem.F.plainAttrs_list PySem.F.slot_list_append PySem.F.type_list_append mt_append (pv 0) (pa_cons (pe_op op_fdivW (pv 2) (pv 1)) pa_nil)))
    · exact pss_nil
  refine pss_one ?_
  exact (ps_ret (pe_op op_mod (pv 2) (pv 1)))
theorem ok__law_name (T : Txt K mg t) : FnOk P w K mg base CX0 1 t.a__law_name t.d__law_name ["_law_code", "_law_k"] (sp__law_name K) := by
  refine T.F__law_name.ok sc__law_name (len__law_name K) (fun cdv A outer s H vs Q E hr h => ⟨R__law_name K, ?_, rd__law_name h⟩)
  have S := sc__law_name
  refine pss_cons ?_ ?_
  · refine ps_set (i := 2) ?_ ?_ ?_ ?_ ?_ ?_
    · exact S.nd
    · exact rfl
    · exact (Or.inl rfl)
    · exact pe_str
    · rfl
    · walk_at "or"
  refine pss_cons ?_ ?_
  · refine ps_set (i := 3) ?_ ?_ ?_ ?_ ?_ ?_
    · exact S.nd
    · exact rfl
    · exact (Or.inl rfl)
    · exact (pe_op op_mod (pe_op op_fdiv (pv 0) pe_int) pe_int)
    · rfl
    · walk_at "or"
  refine pss_cons ?_ ?_
  · refine ps_if ?_ ?_ ?_
    · exact (pt_cmpR (op_eqA (u190 hr)) (pe_op op_mod (pe_op op_fdiv (pv 0) pe_int) pe_int) pe_int (nomark _))
    · refine pss_one ?_
      exact (ps_ret (pe_op op_mulA (pe_ix (ix_any' (hu_of hr)) (pv 2) (pe_op op_mod (pe_op op_addA (pv 3) (pe_op op_fdiv (pv 1) pe_int)) pe_int) (fun _ _ => rfl)) (pe_op op_addA pe_int (pe_op op_mod (pv 1) pe_int))))
    · exact pss_nil
  refine pss_cons ?_ ?_
  · refine ps_set (i := 4) ?_ ?_ ?_ ?_ ?_ ?_
    · exact S.nd
    · exact rfl
    · exact (Or.inl rfl)
    · exact (pe_op op_addA pe_int (pe_op op_mod (pv 0) pe_int))
    · rfl
    · walk_at "or"
  refine pss_cons ?_ ?_
  · refine ps_set (i := 5) ?_ ?_ ?_ ?_ ?_ ?_
    · exact S.nd
    · exact rfl
    · exact (Or.inl rfl)
    · exact (pe_op op_mod (pe_op op_fdiv (pv 0) pe_int) (pv 4))
    · rfl
    · walk_at "or"
  refine pss_cons ?_ ?_
  · refine ps_set (i := 6) ?_ ?_ ?_ ?_ ?_ ?_
    · exact S.nd
    · exact rfl
    · exact (Or.inl rfl)
    · exact pe_str
    · rfl
    · walk_at "or"
  refine pss_cons ?_ ?_
  · refine ps_for PassesOwn.never rfl ?_ ?_ ?_
    · exact (pi_range1 rfl T.z_range (pa_cons (pv 4) pa_nil))
    · exact (pg_name (i := 7) S.nd rfl (Or.inl rfl))
    · refine pss_cons ?_ ?_
      · refine ps_set (i := 8) ?_ ?_ ?_ ?_ ?_ ?_
        · exact S.nd
        · exact rfl
        · exact (Or.inl rfl)
        · exact (pe_op op_mulA (pe_op op_mod (pe_op op_fdiv (pv 0) pe_int) pe_int) (pv 7))
        · rfl
        · walk_at "or"
      refine pss_cons ?_ ?_
      · refine ps_if ?_ ?_ ?_
        · exact (pt_cmpR (op_eqA (u190 hr)) (pv 7) (pv 5) (nomark _))
        · refine pss_one ?_
          refine ps_set (i := 8) ?_ ?_ ?_ ?_ ?_ ?_
          · exact S.nd
          · exact rfl
          · exact (Or.inl rfl)
          · exact (pe_op op_addA (pv 8) (pv 1))
          · rfl
          · walk_at "or"
        · exact pss_nil
      refine pss_one ?_
      refine ps_set (i := 6) ?_ ?_ ?_ ?_ ?_ ?_
      · exact S.nd
      · exact rfl
      · exact (Or.inl rfl)
      · exact (pe_op op_addA (pv 6) (pe_ix (ix_any' (hu_of hr)) (pv 2) (pe_op op_mod (pe_op op_addA (pv 3) (pv 8)) pe_int) (fun _ _ => rfl)))
      · rfl
      · walk_at "or"
  refine pss_one ?_
  exact (ps_ret (pv 6))
theorem ok__law_walk (T : Txt K mg t) : FnOk P w K mg base CX0 1 t.a__law_walk t.d__law_walk ["_law_tree_here"] (sp__law_walk K) := by
  refine T.F__law_walk.ok sc__law_walk (len__law_walk K) (fun cdv A outer s H vs Q E hr h => ⟨R__law_walk K, ?_, rd__law_walk h⟩)
  have S := sc__law_walk
  refine pss_cons ?_ ?_
  · refine ps_set (i := 1) ?_ ?_ ?_ ?_ ?_ ?_
    · exact S.nd
    · exact rfl
    · exact (Or.inl rfl)
    · exact (pe_lst pa_nil)
    · rfl
    · walk_at "or"
  refine pss_cons ?_ ?_
  · refine ps_set (i := 2) ?_ ?_ ?_ ?_ ?_ ?_
    · exact S.nd
    · exact rfl
    · exact (Or.inl rfl)
    · exact (pe_lst (pa_cons (pe_tup (pa_cons (pe_tup pa_nil) (pa_cons (pe_tup pa_nil) (pa_cons (pv 0) pa_nil)))) pa_nil))
    · rfl
    · walk_at "or"
  refine pss_cons ?_ ?_
  · refine ps_while PassesOwn.never ?_ ?_
    · exact (pt_cmpR (op_neA (u190 hr)) (pv 2) (pe_lst pa_nil) (nomark _))
    · refine pss_cons ?_ ?_
      · exact (ps_asg (pe_bm PySem.F.plainAttrs_list PySem.F.slot_list_pop PySem.F.type_list_pop mt_popAt (pv 2) (pa_cons pe_int pa_nil)) (pg_tup rfl (pgs_cons (pg_name (i := 3) S.nd rfl (Or.inr rfl)) (pgs_cons (pg_name (i := 4) S.nd rfl (Or.inl rfl)) (pgs_cons (pg_name (i := 5) S.nd rfl (Or.inr rfl)) pgs_nil)))))
      refine pss_cons ?_ ?_
      · exact (ps_expr (pe_bm PySem.F.plainAttrs_list PySem.F.slot_list_append PySem.F.type_list_append mt_append (pv 1) (pa_cons (pe_tup (pa_cons (pv 3) (pa_cons (pv 4) (pa_cons (pv 5) pa_nil)))) pa_nil)))
      refine pss_one ?_
      refine ps_if ?_ ?_ ?_
      · exact (pt_not (pt_val (pe_callB call_isinstanceA rfl T.z_isinstance boot_isinstance (pa_cons (pv 5) (pa_cons (pe_bltn rfl T.z_str boot_str rfl) pa_nil)))))
      · refine pss_cons ?_ ?_
        · refine ps_set (i := 6) ?_ ?_ ?_ ?_ ?_ ?_
          · exact S.nd
          · exact rfl
          · exact (Or.inr rfl)
          · exact (pv 4)
          · rfl
          · walk_at "or"
        refine pss_cons ?_ ?_
        · refine ps_if ?_ ?_ ?_
          · exact (pt_cmpR (op_neA (u190 hr)) (pv 3) (pe_tup pa_nil) (nomark _))
          · refine pss_one ?_
            refine ps_set (i := 6) ?_ ?_ ?_ ?_ ?_ ?_
            · exact S.nd
            · exact rfl
            · exact (Or.inr rfl)
            · exact (pe_op op_addB (pv 4) (pe_tup (pa_cons (pe_ix (ix_any' (hu_of hr)) (pv 5) pe_int (fun _ _ => rfl)) pa_nil)))
            · rfl
            · walk_at "or"
          · exact pss_nil
        refine pss_one ?_
        refine ps_set (i := 2) ?_ ?_ ?_ ?_ ?_ ?_
        · exact S.nd
        · exact rfl
        · exact (Or.inl rfl)
        · refine pe_op op_addB ?_ ?_
          · exact (pe_comp rfl (comp_scope (osc := defScope s__law_walk) (ON := ["_law_tree_here", "_law_found", "_law_todo", "_law_place", "_law_names", "_law_part", "_law_above"]) (N := ["_law_above", "_law_place", "_law_part", "_law_k"]) (fr := [some 6, some 3, some 5, none]) (by decide +kernel) rfl rfl) (pi_range1 rfl T.z_range (pa_cons (pe_callB call_lenA rfl T.z_len boot_len (pa_cons (pe_ix (ix_any' (hu_of hr)) (pv 5) pe_int (fun _ _ => rfl)) pa_nil)) pa_nil)) (fun _ _ _ _ _ _ => (pg_name (i := 3) (show List.Nodup (["_law_above", "_law_place", "_law_part", "_law_k"] : List Str) by decide +kernel) rfl (Or.inl rfl))) tg_name (fun _ _ _ _ _ _ => pts_nil) (fun _ _ _ _ _ _ => (pe_tup (pa_cons (pe_op op_addB (pv 1) (pe_tup (pa_cons (pv 3) pa_nil))) (pa_cons (pv 0) (pa_cons (pe_ix (ix_any' (hu_of hr)) (pe_ix (ix_any' (hu_of hr)) (pv 2) pe_int (fun _ _ => rfl)) (pv 3) (fun _ _ => rfl)) pa_nil))))))
          · exact (pv 2)
        · rfl
        · walk_at "or"
      · exact pss_nil
  refine pss_one ?_
  exact (ps_ret (pv 1))
theorem ok__law_row (T : Txt K mg t) : FnOk P w K mg base CX0 1 t.a__law_row t.d__law_row ["_law_book_here", "_law_name_here"] (sp__law_row K) := by
  refine T.F__law_row.ok sc__law_row (len__law_row K) (fun cdv A outer s H vs Q E hr h => ⟨R__law_row K, ?_, rd__law_row h⟩)
  have S := sc__law_row
  refine pss_cons ?_ ?_
  · refine ps_for PassesOwn.never rfl ?_ ?_ ?_
    · exact (pi_any (pv 0))
    · exact (pg_name (i := 2) S.nd rfl (Or.inl rfl))
    · refine pss_one ?_
      refine ps_if ?_ ?_ ?_
      · exact (pt_cmpR (op_eqA (u190 hr)) (pe_ix (ix_any' (hu_of hr)) (pv 2) pe_int (fun _ _ => rfl)) (pv 1) (nomark _))
      · refine pss_one ?_
        exact (ps_ret (pv 2))
      · exact pss_nil
  refine pss_one ?_
  exact (ps_ret (pe_tup (pa_cons pe_str (pa_cons pe_str (pa_cons pe_str (pa_cons (pe_tup pa_nil) (pa_cons (pe_tup pa_nil) pa_nil)))))))
theorem ok_sort_of (T : Txt K mg t) : FnOk P w K mg base CX0 2 t.a_sort_of t.d_sort_of ["book", "name"] (sp_sort_of K) := by
  refine T.F_sort_of.ok sc_sort_of (len_sort_of K) (fun cdv A outer s H vs Q E hr h => ⟨R_sort_of K, ?_, rd_sort_of h⟩)
  have S := sc_sort_of
  refine pss_cons ?_ ?_
  · refine ps_set (i := 2) ?_ ?_ ?_ ?_ ?_ ?_
    · exact S.nd
    · exact rfl
    · exact (Or.inl rfl)
    · exact (pe_call (ok_row_of T) (hr.mono (by walk_at "le")) rfl T.m_row_of T.F_row_of.kp T.b_row_of .nil pass0 (pa_cons (pv 0) (pa_cons (pv 1) pa_nil)))
    · rfl
    · walk_at "or"
  refine pss_one ?_
  exact (ps_ret (pe_ifExp (pt_cmpR op_isA (pv 2) pe_non (nomark _)) pe_non (pe_ix (ix_any' (hu_of hr)) (pv 2) (pe_glob rfl T.g_SORT.1 T.g_SORT.2) (fun _ _ => rfl))))
theorem ok_host_of (T : Txt K mg t) : FnOk P w K mg base CX0 2 t.a_host_of t.d_host_of ["book", "name"] (sp_host_of K) := by
  refine T.F_host_of.ok sc_host_of (len_host_of K) (fun cdv A outer s H vs Q E hr h => ⟨R_host_of K, ?_, rd_host_of h⟩)
  have S := sc_host_of
  refine pss_cons ?_ ?_
  · refine ps_set (i := 2) ?_ ?_ ?_ ?_ ?_ ?_
    · exact S.nd
    · exact rfl
    · exact (Or.inl rfl)
    · exact (pe_call (ok_row_of T) (hr.mono (by walk_at "le")) rfl T.m_row_of T.F_row_of.kp T.b_row_of .nil pass0 (pa_cons (pv 0) (pa_cons (pv 1) pa_nil)))
    · rfl
    · walk_at "or"
  refine pss_cons ?_ ?_
  · refine ps_if ?_ ?_ ?_
    · exact (PW.pt (pw_or (pt_cmpR op_isA (pv 2) pe_non (nomark _)) (pw_or1 (pt_cmpR (op_neA (u190 hr)) (pe_ix (ix_any' (hu_of hr)) (pv 2) (pe_glob rfl T.g_SORT.1 T.g_SORT.2) (fun _ _ => rfl)) pe_str (nomark _)))))
    · refine pss_one ?_
      exact (ps_ret pe_non)
    · exact pss_nil
  refine pss_one ?_
  exact (ps_ret (pe_ix (ix_any' (hu_of hr)) (pv 2) (pe_glob rfl T.g_HOST.1 T.g_HOST.2) (fun _ _ => rfl)))
theorem ok_parts_of (T : Txt K mg t) : FnOk P w K mg base CX0 2 t.a_parts_of t.d_parts_of ["part"] (sp_parts_of K) := by
  refine T.F_parts_of.ok sc_parts_of (len_parts_of K) (fun cdv A outer s H vs Q E hr h => ⟨R_parts_of K, ?_, rd_parts_of h⟩)
  have S := sc_parts_of
  refine pss_one ?_
  exact (ps_ret (pe_ifExp (pt_val (pe_call (ok_is_text T) (hr.mono (by walk_at "le")) rfl T.m_is_text T.F_is_text.kp T.b_is_text .nil pass0 (pa_cons (pv 0) pa_nil))) (pe_tup pa_nil) (pe_ix (ix_any' (hu_of hr)) (pv 0) pe_int (fun _ _ => rfl))))
theorem ok__law_sorts (T : Txt K mg t) : FnOk P w K mg base CX0 2 t.a__law_sorts t.d__law_sorts ["_law_deck", "_law_count"] (sp__law_sorts K) := by
  refine T.F__law_sorts.ok sc__law_sorts (len__law_sorts K) (fun cdv A outer s H vs Q E hr h => ⟨R__law_sorts K, ?_, rd__law_sorts h⟩)
  have S := sc__law_sorts
  refine pss_cons ?_ ?_
  · refine ps_set (i := 2) ?_ ?_ ?_ ?_ ?_ ?_
    · exact S.nd
    · exact rfl
    · exact (Or.inr rfl)
    · refine pe_lst ?_
      with_reducible refine pa_s1 ?_
      with_reducible refine pa_s1 ?_
      with_reducible refine pa_s1 ?_
      with_reducible refine pa_s1 ?_
      with_reducible refine pa_s1 ?_
      with_reducible refine pa_s1 ?_
      with_reducible refine pa_s1 ?_
      with_reducible refine pa_s1 ?_
      exact pa_s0
    · rfl
    · walk_at "or"
  refine pss_cons ?_ ?_
  · refine ps_set (i := 3) ?_ ?_ ?_ ?_ ?_ ?_
    · exact S.nd
    · exact rfl
    · exact (Or.inr rfl)
    · exact (pe_comp rfl (comp_scope (osc := defScope s__law_sorts) (ON := ["_law_deck", "_law_count", "_law_kinds", "_law_sorts_here", "_law_hosts", "_law_k", "_law_free"]) (N := ["_law_kinds", "_law_deck", "_law_k"]) (fr := [some 2, some 0, none]) (by decide +kernel) rfl rfl) (pi_range1 rfl T.z_range (pa_cons (pv 1) pa_nil)) (fun _ _ _ _ _ _ => (pg_name (i := 2) (show List.Nodup (["_law_kinds", "_law_deck", "_law_k"] : List Str) by decide +kernel) rfl (Or.inl rfl))) tg_name (fun _ _ _ _ _ _ => pts_nil) (fun _ _ _ _ _ _ => (pe_ix (ix_any' (hu_of hr)) (pv 0) (pe_call (ok__law_draw T) (hr.mono (by walk_at "le")) rfl T.m__law_draw T.F__law_draw.kp T.b__law_draw .nil pass0 (pa_cons (pv 1) (pa_cons pe_int pa_nil))) (fun _ _ => rfl))))
    · rfl
    · walk_at "or"
  refine pss_cons ?_ ?_
  · refine ps_set (i := 4) ?_ ?_ ?_ ?_ ?_ ?_
    · exact S.nd
    · exact rfl
    · exact (Or.inr rfl)
    · exact pe_dnewK
    · rfl
    · walk_at "or"
  refine pss_cons ?_ ?_
  · refine ps_for PassesOwn.never rfl ?_ ?_ ?_
    · exact (pi_range1 rfl T.z_range (pa_cons (pv 1) pa_nil))
    · exact (pg_name (i := 5) S.nd rfl (Or.inl rfl))
    · refine pss_one ?_
      refine ps_if ?_ ?_ ?_
      · exact (pt_cmpR (op_eqA (u190 hr)) (pe_ix (ix_any' (hu_of hr)) (pv 3) (pv 5) (fun _ _ => rfl)) pe_str (nomark _))
      · refine pss_cons ?_ ?_
        · exact (ps_setC (i := 6) S.nd rfl rfl rfl (comp_scope (osc := defScope s__law_sorts) (ON := ["_law_deck", "_law_count", "_law_kinds", "_law_sorts_here", "_law_hosts", "_law_k", "_law_free"]) (N := ["_law_sorts_here", "_law_hosts", "_law_j"]) (fr := [some 3, some 4, none]) (by decide +kernel) rfl rfl) (pi_range2 rfl T.z_range (pa_cons (pe_op op_addA (pv 5) pe_int) (pa_cons (pv 1) pa_nil))) (fun _ _ _ _ _ _ => (pg_name (i := 2) (show List.Nodup (["_law_sorts_here", "_law_hosts", "_law_j"] : List Str) by decide +kernel) rfl (Or.inl rfl))) tg_name (fun _ _ _ _ _ _ => (pts_one (PW.pt (pw_and (pt_cmpR (op_inB (hu_of hr)) (pe_ix (ix_any' (hu_of hr)) (pv 0) (pv 2) (fun _ _ => rfl)) (pe_tup (pa_cons pe_str (pa_cons pe_str pa_nil))) (by with_unfolding_all rfl)) (pw_and1 (pt_notinV rfl (pv 2) (pv 1))))))) (fun _ _ _ _ _ _ => (pv 2)))
        refine pss_one ?_
        refine ps_if ?_ ?_ ?_
        · exact (pt_cmpR (op_eqA (u190 hr)) (pv 6) (pe_lst pa_nil) (nomark _))
        · refine pss_one ?_
          exact (ps_asg (pe_ix (ix_any' (hu_of hr)) (pe_lst (pa_cons pe_str (pa_cons pe_str pa_nil))) (pe_callTy call_intA rfl T.z_int boot_int (pa_cons (pe_inV rfl (pv 5) (pv 4)) pa_nil)) (fun _ _ => rfl)) (pg_sub (pv 3) (pv 5) (set_any' (hu_of hr))))
        · refine pss_one ?_
          exact (ps_asg (pe_ix (ix_any' (hu_of hr)) (pv 6) (pe_call (ok__law_draw T) (hr.mono (by walk_at "le")) rfl T.m__law_draw T.F__law_draw.kp T.b__law_draw .nil pass0 (pa_cons (pv 0) (pa_cons (pe_callB call_lenA rfl T.z_len boot_len (pa_cons (pv 6) pa_nil)) pa_nil))) (fun _ _ => rfl)) (pg_sub (pv 4) (pv 5) (set_any' (hu_of hr))))
      · exact pss_nil
  refine pss_one ?_
  exact (ps_ret (pe_tup (pa_cons (pv 3) (pa_cons (pv 4) pa_nil))))
theorem ok__law_some (T : Txt K mg t) : FnOk P w K mg base CX0 2 t.a__law_some t.d__law_some ["_law_deck", "_law_names"] (sp__law_some K) := by
  refine T.F__law_some.ok sc__law_some (len__law_some K) (fun cdv A outer s H vs Q E hr h => ⟨R__law_some K, ?_, rd__law_some h⟩)
  have S := sc__law_some
  refine pss_cons ?_ ?_
  · refine ps_set (i := 2) ?_ ?_ ?_ ?_ ?_ ?_
    · exact S.nd
    · exact rfl
    · exact (Or.inl rfl)
    · exact (pe_lst pa_nil)
    · rfl
    · walk_at "or"
  refine pss_cons ?_ ?_
  · refine ps_for PassesOwn.never rfl ?_ ?_ ?_
    · exact (pi_any (pv 1))
    · exact (pg_name (i := 3) S.nd rfl (Or.inl rfl))
    · refine pss_one ?_
      refine ps_if ?_ ?_ ?_
      · exact (pt_cmpR (op_eqA (u190 hr)) (pe_call (ok__law_draw T) (hr.mono (by walk_at "le")) rfl T.m__law_draw T.F__law_draw.kp T.b__law_draw .nil pass0 (pa_cons (pv 0) (pa_cons pe_int pa_nil))) pe_int (nomark _))
      · refine pss_one ?_
        exact (ps_expr (pe_bm PySem.F.plainAttrs_list PySem.F.slot_list_append PySem.F.type_list_append mt_append (pv 2) (pa_cons (pv 3) pa_nil)))
      · exact pss_nil
  refine pss_one ?_
  exact (ps_ret (pe_callTy call_tupleA rfl T.z_tuple boot_tuple (pa_cons (pe_callB call_sortedA rfl T.z_sorted boot_sorted (pa_cons (pv 2) pa_nil)) pa_nil)))
theorem ok__law_text (T : Txt K mg t) : FnOk P w K mg base CX0 2 t.a__law_text t.d__law_text ["_law_deck"] (sp__law_text K) := by
  refine T.F__law_text.ok sc__law_text (len__law_text K) (fun cdv A outer s H vs Q E hr h => ⟨R__law_text K, ?_, rd__law_text h⟩)
  have S := sc__law_text
  refine pss_cons ?_ ?_
  · refine ps_set (i := 1) ?_ ?_ ?_ ?_ ?_ ?_
    · exact S.nd
    · exact rfl
    · exact (Or.inr rfl)
    · exact pe_str
    · rfl
    · walk_at "or"
  refine pss_cons ?_ ?_
  · refine ps_if ?_ ?_ ?_
    · exact (pt_cmpR (op_eqA (u190 hr)) (pe_call (ok__law_draw T) (hr.mono (by walk_at "le")) rfl T.m__law_draw T.F__law_draw.kp T.b__law_draw .nil pass0 (pa_cons (pv 0) (pa_cons pe_int pa_nil))) pe_int (nomark _))
    · refine pss_cons ?_ ?_
      · refine ps_set (i := 1) ?_ ?_ ?_ ?_ ?_ ?_
        · exact S.nd
        · exact rfl
        · exact (Or.inr rfl)
        · exact pe_str
        · rfl
        · walk_at "or"
      refine pss_one ?_
      refine ps_set (i := 1) ?_ ?_ ?_ ?_ ?_ ?_
      · exact S.nd
      · exact rfl
      · exact (Or.inr rfl)
      · exact (pe_op op_addA (pv 1) pe_str)
      · rfl
      · walk_at "or"
    · exact pss_nil
  refine pss_one ?_
  refine ps_ret ?_
  exact (pe_bm PySem.F.plainAttrs_str PySem.F.slot_str_join PySem.F.type_str_join mt_join pe_str (pa_cons (pe_comp rfl (comp_scope (osc := defScope s__law_text) (ON := ["_law_deck", "_law_signs"]) (N := ["_law_signs", "_law_deck", "_law_k"]) (fr := [some 1, some 0, none]) (by decide +kernel) rfl rfl) (pi_range1 rfl T.z_range (pa_cons (pe_op op_addA pe_int (pe_call (ok__law_draw T) (hr.mono (by walk_at "le")) rfl T.m__law_draw T.F__law_draw.kp T.b__law_draw .nil pass0 (pa_cons (pv 0) (pa_cons pe_int pa_nil)))) pa_nil)) (fun _ _ _ _ _ _ => (pg_name (i := 2) (show List.Nodup (["_law_signs", "_law_deck", "_law_k"] : List Str) by decide +kernel) rfl (Or.inl rfl))) tg_name (fun _ _ _ _ _ _ => pts_nil) (fun _ _ _ _ _ _ => (pe_ix (ix_any' (hu_of hr)) (pv 0) (pe_call (ok__law_draw T) (hr.mono (by walk_at "le")) rfl T.m__law_draw T.F__law_draw.kp T.b__law_draw .nil pass0 (pa_cons (pv 1) (pa_cons (pe_callB call_lenA rfl T.z_len boot_len (pa_cons (pv 0) pa_nil)) pa_nil))) (fun _ _ => rfl)))) pa_nil))
theorem ok__law_near (T : Txt K mg t) : FnOk P w K mg base CX0 2 t.a__law_near t.d__law_near ["_law_book_here", "_law_names"] (sp__law_near K) := by
  refine T.F__law_near.ok sc__law_near (len__law_near K) (fun cdv A outer s H vs Q E hr h => ⟨R__law_near K, ?_, rd__law_near h⟩)
  have S := sc__law_near
  refine pss_cons ?_ ?_
  · refine ps_set (i := 2) ?_ ?_ ?_ ?_ ?_ ?_
    · exact S.nd
    · exact rfl
    · exact (Or.inl rfl)
    · exact (pe_callTy call_listA rfl T.z_list boot_list (pa_cons (pv 1) pa_nil))
    · rfl
    · walk_at "or"
  refine pss_cons ?_ ?_
  · refine ps_for PassesOwn.never rfl ?_ ?_ ?_
    · exact (pi_range1 rfl T.z_range (pa_cons (pe_callB call_lenA rfl T.z_len boot_len (pa_cons (pv 1) pa_nil)) pa_nil))
    · exact (pg_name (i := 3) S.nd rfl (Or.inl rfl))
    · refine pss_one ?_
      refine ps_if ?_ ?_ ?_
      · exact (pt_cmpR (op_inB (hu_of hr)) (pe_ix (ix_any' (hu_of hr)) (pe_call (ok__law_row T) (hr.mono (by walk_at "le")) rfl T.m__law_row T.F__law_row.kp T.b__law_row .nil pass0 (pa_cons (pv 0) (pa_cons (pe_ix (ix_any' (hu_of hr)) (pv 1) (pv 3) (fun _ _ => rfl)) pa_nil))) pe_int (fun _ _ => rfl)) (pe_tup (pa_cons pe_str (pa_cons pe_str pa_nil))) (by with_unfolding_all rfl))
      · refine pss_one ?_
        refine ps_set (i := 2) ?_ ?_ ?_ ?_ ?_ ?_
        · exact S.nd
        · exact rfl
        · exact (Or.inl rfl)
        · exact (pe_callTy call_listA rfl T.z_list boot_list (pa_cons (pe_slice sl_anyB (pv 1) (po_some (pe_op op_addB (pv 3) pe_int)) po_none) pa_nil))
        · rfl
        · walk_at "or"
      · exact pss_nil
  refine pss_one ?_
  exact (ps_ret (pv 2))
theorem ok_is_wall (T : Txt K mg t) : FnOk P w K mg base CX0 3 t.a_is_wall t.d_is_wall ["book", "name"] (sp_is_wall K) := by
  refine T.F_is_wall.ok sc_is_wall (len_is_wall K) (fun cdv A outer s H vs Q E hr h => ⟨R_is_wall K t.c_WALL_SORTS, ?_, rd_is_wall T.q_WALL_SORTS h⟩)
  have S := sc_is_wall
  refine pss_one ?_
  exact (ps_ret (pe_cmpR (op_inB (hu_of hr)) (pe_call (ok_sort_of T) (hr.mono (by walk_at "le")) rfl T.m_sort_of T.F_sort_of.kp T.b_sort_of .nil pass0 (pa_cons (pv 0) (pa_cons (pv 1) pa_nil))) (pe_glob rfl T.g_WALL_SORTS rfl) (by with_unfolding_all rfl)))
theorem ok_way_to (T : Txt K mg t) : FnOk P w K mg base CX0 3 t.a_way_to t.d_way_to ["tree", "place"] (sp_way_to K) := by
  refine T.F_way_to.ok sc_way_to (len_way_to K) (fun cdv A outer s H vs Q E hr h => ⟨R_way_to K, ?_, rd_way_to h⟩)
  have S := sc_way_to
  refine pss_cons ?_ ?_
  · refine ps_set (i := 2) ?_ ?_ ?_ ?_ ?_ ?_
    · exact S.nd
    · exact rfl
    · exact (Or.inl rfl)
    · exact (pe_lst (pa_cons (pv 0) pa_nil))
    · rfl
    · walk_at "or"
  refine pss_cons ?_ ?_
  · refine ps_for PassesOwn.never rfl ?_ ?_ ?_
    · exact (pi_any (pv 1))
    · exact (pg_name (i := 3) S.nd rfl (Or.inl rfl))
    · refine pss_cons ?_ ?_
      · refine ps_set (i := 4) ?_ ?_ ?_ ?_ ?_ ?_
        · exact S.nd
        · exact rfl
        · exact (Or.inl rfl)
        · exact (pe_call (ok_parts_of T) (hr.mono (by walk_at "le")) rfl T.m_parts_of T.F_parts_of.kp T.b_parts_of .nil pass0 (pa_cons (pe_ix (ix_any' (hu_of hr)) (pv 2) (pe_un un_neg pe_int) (fun _ _ => rfl)) pa_nil))
        · rfl
        · walk_at "or"
      refine pss_cons ?_ ?_
      · refine ps_if ?_ ?_ ?_
        · exact (pt_not (pt_chain op_leA op_ltA pe_int (pv 3) (pe_callB call_lenA rfl T.z_len boot_len (pa_cons (pv 4) pa_nil))))
        · refine pss_one ?_
          exact ps_never
        · exact pss_nil
      refine pss_one ?_
      exact (ps_expr (pe_bm PySem.F.plainAttrs_list PySem.F.slot_list_append PySem.F.type_list_append mt_append (pv 2) (pa_cons (pe_ix (ix_any' (hu_of hr)) (pv 4) (pv 3) (fun _ _ => rfl)) pa_nil)))
  refine pss_one ?_
  exact (ps_ret (pv 2))
theorem okx_way_to (T : Txt K mg t) : FnOk P w K mg base (Fly P w) 3 t.a_way_to t.d_way_to ["tree", "place"] (spx_way_to K t.k_NoPlace) := by
  refine T.F_way_to.okX sc_way_to (lenx_way_to K _) (fun cdv A outer s H vs Q E hr h => ⟨Rx_way_to K t.k_NoPlace E, ?_, rdx_way_to h⟩)
  have S := sc_way_to
  refine pss_cons ?_ ?_
  · refine ps_set (i := 2) ?_ ?_ ?_ ?_ ?_ ?_
    · exact S.nd
    · exact rfl
    · exact (Or.inl rfl)
    · exact (pe_lst (pa_cons (pv 0) pa_nil))
    · rfl
    · walk_at "or"
  refine pss_cons ?_ ?_
  · refine ps_for own_cx rfl ?_ ?_ ?_
    · exact (pi_any (pv 1))
    · exact (pg_name (i := 3) S.nd rfl (Or.inl rfl))
    · refine pss_cons ?_ ?_
      · refine ps_set (i := 4) ?_ ?_ ?_ ?_ ?_ ?_
        · exact S.nd
        · exact rfl
        · exact (Or.inl rfl)
        · exact (pe_call (ok_parts_of T) (hr.mono (by walk_at "le")) rfl T.m_parts_of T.F_parts_of.kp T.b_parts_of .nil pass0 (pa_cons (pe_ix (ix_any' (hu_of hr)) (pv 2) (pe_un un_neg pe_int) (fun _ _ => rfl)) pa_nil))
        · rfl
        · walk_at "or"
      refine pss_cons ?_ ?_
      · refine ps_if ?_ ?_ ?_
        · exact (pt_not (pt_chain op_leA op_ltA pe_int (pv 3) (pe_callB call_lenA rfl T.z_len boot_len (pa_cons (pv 4) pa_nil))))
        · refine pss_one ?_
          exact (ps_raise throws_cx rfl T.x_NoPlace rfl (pa_cons pe_str pa_nil))
        · exact pss_nil
      refine pss_one ?_
      exact (ps_expr (pe_bm PySem.F.plainAttrs_list PySem.F.slot_list_append PySem.F.type_list_append mt_append (pv 2) (pa_cons (pe_ix (ix_any' (hu_of hr)) (pv 4) (pv 3) (fun _ _ => rfl)) pa_nil)))
  refine pss_one ?_
  exact (ps_ret (pv 2))
theorem ok_text_fault (T : Txt K mg t) : FnOk P w K mg base CX0 3 t.a_text_fault t.d_text_fault ["book", "names", "text", "beside"] (sp_text_fault K) := by
  refine T.F_text_fault.ok sc_text_fault (len_text_fault K) (fun cdv A outer s H vs Q E hr h => ⟨R_text_fault K, ?_, rd_text_fault h⟩)
  have S := sc_text_fault
  refine pss_cons ?_ ?_
  · refine ps_if ?_ ?_ ?_
    · exact (pt_cmpR op_isnotA (pe_call (ok_host_of T) (hr.mono (by walk_at "le")) rfl T.m_host_of T.F_host_of.kp T.b_host_of .nil pass0 (pa_cons (pv 0) (pa_cons (pe_call (ok_straight_above T) (hr.mono (by walk_at "le")) rfl T.m_straight_above T.F_straight_above.kp T.b_straight_above .nil pass0 (pa_cons (pv 1) pa_nil)) pa_nil))) pe_non (nomark _))
    · refine pss_one ?_
      exact (ps_ret pe_str)
    · exact pss_nil
  refine pss_cons ?_ ?_
  · refine ps_if ?_ ?_ ?_
    · exact (pt_cmpR (op_eqA (u190 hr)) (pv 2) pe_str (nomark _))
    · refine pss_one ?_
      exact (ps_ret pe_str)
    · exact pss_nil
  refine pss_one ?_
  exact (ps_ret (pe_ifExp (pt_val (pv 3)) pe_str pe_non))
theorem ok_frame_fault (T : Txt K mg t) : FnOk P w K mg base CX0 3 t.a_frame_fault t.d_frame_fault ["book", "names", "name"] (sp_frame_fault K) := by
  refine T.F_frame_fault.ok sc_frame_fault (len_frame_fault K) (fun cdv A outer s H vs Q E hr h => ⟨R_frame_fault K, ?_, rd_frame_fault h⟩)
  have S := sc_frame_fault
  refine pss_cons ?_ ?_
  · refine ps_set (i := 3) ?_ ?_ ?_ ?_ ?_ ?_
    · exact S.nd
    · exact rfl
    · exact (Or.inl rfl)
    · exact (pe_call (ok_straight_above T) (hr.mono (by walk_at "le")) rfl T.m_straight_above T.F_straight_above.kp T.b_straight_above .nil pass0 (pa_cons (pv 1) pa_nil))
    · rfl
    · walk_at "or"
  refine pss_cons ?_ ?_
  · refine ps_set (i := 4) ?_ ?_ ?_ ?_ ?_ ?_
    · exact S.nd
    · exact rfl
    · exact (Or.inl rfl)
    · exact (pe_call (ok_host_of T) (hr.mono (by walk_at "le")) rfl T.m_host_of T.F_host_of.kp T.b_host_of .nil pass0 (pa_cons (pv 0) (pa_cons (pv 3) pa_nil)))
    · rfl
    · walk_at "or"
  refine pss_cons ?_ ?_
  · refine ps_if ?_ ?_ ?_
    · exact (PW.pt (pw_and (pt_cmpR op_isnotA (pv 4) pe_non (nomark _)) (pw_and1 (pt_cmpR (op_neA (u190 hr)) (pv 4) (pv 2) (nomark _)))))
    · refine pss_one ?_
      exact (ps_ret pe_str)
    · exact pss_nil
  refine pss_cons ?_ ?_
  · refine ps_set (i := 5) ?_ ?_ ?_ ?_ ?_ ?_
    · exact S.nd
    · exact rfl
    · exact (Or.inl rfl)
    · exact (pe_call (ok_frame_of T) (hr.mono (by walk_at "le")) rfl T.m_frame_of T.F_frame_of.kp T.b_frame_of .nil pass0 (pa_cons (pv 0) (pa_cons (pv 2) pa_nil)))
    · rfl
    · walk_at "or"
  refine pss_cons ?_ ?_
  · refine ps_if ?_ ?_ ?_
    · exact (PW.pt (pw_and (pt_cmpR op_isnotA (pv 5) pe_non (nomark _)) (pw_and1 (pt_cmpR (op_neA (u190 hr)) (pv 5) (pv 3) (nomark _)))))
    · refine pss_one ?_
      exact (ps_ret pe_str)
    · exact pss_nil
  refine pss_one ?_
  exact (ps_ret pe_non)
theorem ok__law_book (T : Txt K mg t) : FnOk P w K mg base CX0 3 t.a__law_book t.d__law_book ["_law_deck", "_law_code", "_law_most"] (sp__law_book K) := by
  refine T.F__law_book.ok sc__law_book (len__law_book K) (fun cdv A outer s H vs Q E hr h => ⟨R__law_book K, ?_, rd__law_book h⟩)
  have S := sc__law_book
  refine pss_cons ?_ ?_
  · refine ps_set (i := 3) ?_ ?_ ?_ ?_ ?_ ?_
    · exact S.nd
    · exact rfl
    · exact (Or.inl rfl)
    · exact (pe_op op_addA pe_int (pe_call (ok__law_draw T) (hr.mono (by walk_at "le")) rfl T.m__law_draw T.F__law_draw.kp T.b__law_draw .nil pass0 (pa_cons (pv 0) (pa_cons (pv 2) pa_nil))))
    · rfl
    · walk_at "or"
  refine pss_cons ?_ ?_
  · exact (ps_asg (pe_call (ok__law_sorts T) (hr.mono (by walk_at "le")) rfl T.m__law_sorts T.F__law_sorts.kp T.b__law_sorts .nil pass0 (pa_cons (pv 0) (pa_cons (pv 3) pa_nil))) (pg_tup rfl (pgs_cons (pg_name (i := 4) S.nd rfl (Or.inr rfl)) (pgs_cons (pg_name (i := 5) S.nd rfl (Or.inr rfl)) pgs_nil))))
  refine pss_cons ?_ ?_
  · refine ps_set (i := 6) ?_ ?_ ?_ ?_ ?_ ?_
    · exact S.nd
    · exact rfl
    · exact (Or.inr rfl)
    · exact (pe_comp rfl (comp_scope (osc := defScope s__law_book) (ON := ["_law_deck", "_law_code", "_law_most", "_law_count", "_law_sorts_here", "_law_hosts", "_law_names", "_law_soft", "_law_may_shut", "_law_book_here", "_law_k", "_law_shuts", "_law_host", "_law_row_here"]) (N := ["_law_code", "_law_k"]) (fr := [some 1, none]) (by decide +kernel) rfl rfl) (pi_range1 rfl T.z_range (pa_cons (pv 3) pa_nil)) (fun _ _ _ _ _ _ => (pg_name (i := 1) (show List.Nodup (["_law_code", "_law_k"] : List Str) by decide +kernel) rfl (Or.inl rfl))) tg_name (fun _ _ _ _ _ _ => pts_nil) (fun _ _ _ _ _ _ => (pe_call (ok__law_name T) (hr.mono (by walk_at "le")) rfl T.m__law_name T.F__law_name.kp T.b__law_name .nil pass0 (pa_cons (pv 0) (pa_cons (pv 1) pa_nil)))))
    · rfl
    · walk_at "or"
  refine pss_cons ?_ ?_
  · exact (ps_setC (i := 7) S.nd rfl rfl rfl (comp_scope (osc := defScope s__law_book) (ON := ["_law_deck", "_law_code", "_law_most", "_law_count", "_law_sorts_here", "_law_hosts", "_law_names", "_law_soft", "_law_may_shut", "_law_book_here", "_law_k", "_law_shuts", "_law_host", "_law_row_here"]) (N := ["_law_sorts_here", "_law_k"]) (fr := [some 4, none]) (by decide +kernel) rfl rfl) (pi_range1 rfl T.z_range (pa_cons (pv 3) pa_nil)) (fun _ _ _ _ _ _ => (pg_name (i := 1) (show List.Nodup (["_law_sorts_here", "_law_k"] : List Str) by decide +kernel) rfl (Or.inl rfl))) tg_name (fun _ _ _ _ _ _ => (pts_one (pt_cmpR (op_inB (hu_of hr)) (pe_ix (ix_any' (hu_of hr)) (pv 0) (pv 1) (fun _ _ => rfl)) (pe_tup (pa_cons pe_str (pa_cons pe_str pa_nil))) (by with_unfolding_all rfl)))) (fun _ _ _ _ _ _ => (pv 1)))
  refine pss_cons ?_ ?_
  · exact (ps_setC (i := 8) S.nd rfl rfl rfl (comp_scope (osc := defScope s__law_book) (ON := ["_law_deck", "_law_code", "_law_most", "_law_count", "_law_sorts_here", "_law_hosts", "_law_names", "_law_soft", "_law_may_shut", "_law_book_here", "_law_k", "_law_shuts", "_law_host", "_law_row_here"]) (N := ["_law_names", "_law_hosts", "_law_k"]) (fr := [some 6, some 5, none]) (by decide +kernel) rfl rfl) (pi_any (pv 7)) (fun _ _ _ _ _ _ => (pg_name (i := 2) (show List.Nodup (["_law_names", "_law_hosts", "_law_k"] : List Str) by decide +kernel) rfl (Or.inl rfl))) tg_name (fun _ _ _ _ _ _ => (pts_one (pt_notinV rfl (pv 2) (pv 1)))) (fun _ _ _ _ _ _ => (pe_ix (ix_any' (hu_of hr)) (pv 0) (pv 2) (fun _ _ => rfl))))
  refine pss_cons ?_ ?_
  · refine ps_set (i := 9) ?_ ?_ ?_ ?_ ?_ ?_
    · exact S.nd
    · exact rfl
    · exact (Or.inl rfl)
    · exact (pe_lst pa_nil)
    · rfl
    · walk_at "or"
  refine pss_cons ?_ ?_
  · refine ps_for PassesOwn.never rfl ?_ ?_ ?_
    · exact (pi_range1 rfl T.z_range (pa_cons (pv 3) pa_nil))
    · exact (pg_name (i := 10) S.nd rfl (Or.inl rfl))
    · refine pss_cons ?_ ?_
      · refine ps_set (i := 11) ?_ ?_ ?_ ?_ ?_ ?_
        · exact S.nd
        · exact rfl
        · exact (Or.inl rfl)
        · exact (pe_tup pa_nil)
        · rfl
        · walk_at "or"
      refine pss_cons ?_ ?_
      · refine ps_if ?_ ?_ ?_
        · exact (pt_notinV rfl (pv 10) (pv 5))
        · refine pss_one ?_
          refine ps_set (i := 11) ?_ ?_ ?_ ?_ ?_ ?_
          · exact S.nd
          · exact rfl
          · exact (Or.inl rfl)
          · exact (pe_call (ok__law_some T) (hr.mono (by walk_at "le")) rfl T.m__law_some T.F__law_some.kp T.b__law_some .nil pass0 (pa_cons (pv 0) (pa_cons (pv 8) pa_nil)))
          · rfl
          · walk_at "or"
        · exact pss_nil
      refine pss_cons ?_ ?_
      · refine ps_set (i := 12) ?_ ?_ ?_ ?_ ?_ ?_
        · exact S.nd
        · exact rfl
        · exact (Or.inl rfl)
        · exact pe_str
        · rfl
        · walk_at "or"
      refine pss_cons ?_ ?_
      · refine ps_if ?_ ?_ ?_
        · exact (pt_cmpR (op_inB (hu_of hr)) (pv 10) (pv 5) (by with_unfolding_all rfl))
        · refine pss_one ?_
          refine ps_set (i := 12) ?_ ?_ ?_ ?_ ?_ ?_
          · exact S.nd
          · exact rfl
          · exact (Or.inl rfl)
          · exact (pe_ix (ix_any' (hu_of hr)) (pv 6) (pe_dget (hu_of hr) (pv 5) (pv 10) (fun _ _ => rfl)) (fun _ _ => rfl))
          · rfl
          · walk_at "or"
        · exact pss_nil
      refine pss_cons ?_ ?_
      · refine ps_set (i := 13) ?_ ?_ ?_ ?_ ?_ ?_
        · exact S.nd
        · exact rfl
        · exact (Or.inl rfl)
        · refine pe_tup ?_
          refine pa_cons ?_ ?_
          · exact (pe_ix (ix_any' (hu_of hr)) (pv 6) (pv 10) (fun _ _ => rfl))
          refine pa_cons ?_ ?_
          · exact (pe_ix (ix_any' (hu_of hr)) (pv 4) (pv 10) (fun _ _ => rfl))
          refine pa_cons ?_ ?_
          · exact (pv 12)
          refine pa_cons ?_ ?_
          · exact (pv 11)
          refine pa_cons ?_ ?_
          · refine pe_call (ok__law_some T) (hr.mono (by walk_at "le")) rfl T.m__law_some T.F__law_some.kp T.b__law_some .nil pass0 ?_
            refine pa_cons ?_ ?_
            · exact (pv 0)
            refine pa_cons ?_ ?_
            · exact (pe_comp rfl (comp_scope (osc := defScope s__law_book) (ON := ["_law_deck", "_law_code", "_law_most", "_law_count", "_law_sorts_here", "_law_hosts", "_law_names", "_law_soft", "_law_may_shut", "_law_book_here", "_law_k", "_law_shuts", "_law_host", "_law_row_here"]) (N := ["_law_names", "_law_j"]) (fr := [some 6, none]) (by decide +kernel) rfl rfl) (pi_any (pv 7)) (fun _ _ _ _ _ _ => (pg_name (i := 1) (show List.Nodup (["_law_names", "_law_j"] : List Str) by decide +kernel) rfl (Or.inl rfl))) tg_name (fun _ _ _ _ _ _ => pts_nil) (fun _ _ _ _ _ _ => (pe_ix (ix_any' (hu_of hr)) (pv 0) (pv 1) (fun _ _ => rfl))))
            exact pa_nil
          exact pa_nil
        · rfl
        · walk_at "or"
      refine pss_one ?_
      exact (ps_expr (pe_bm PySem.F.plainAttrs_list PySem.F.slot_list_insert PySem.F.type_list_insert mt_insert (pv 9) (pa_cons (pe_call (ok__law_draw T) (hr.mono (by walk_at "le")) rfl T.m__law_draw T.F__law_draw.kp T.b__law_draw .nil pass0 (pa_cons (pv 0) (pa_cons (pe_op op_addA (pe_callB call_lenA rfl T.z_len boot_len (pa_cons (pv 9) pa_nil)) pe_int) pa_nil))) (pa_cons (pv 13) pa_nil))))
  refine pss_one ?_
  exact (ps_ret (pe_callTy call_tupleA rfl T.z_tuple boot_tuple (pa_cons (pv 9) pa_nil)))
theorem ok__law_fault (T : Txt K mg t) : FnOk P w K mg base CX0 3 t.a__law_fault t.d__law_fault ["_law_book_here", "_law_names", "_law_part", "_law_ahead"] (sp__law_fault K) := by
  refine T.F__law_fault.ok sc__law_fault (len__law_fault K) (fun cdv A outer s H vs Q E hr h => ⟨R__law_fault K, ?_, rd__law_fault h⟩)
  have S := sc__law_fault
  refine pss_cons ?_ ?_
  · refine ps_set (i := 4) ?_ ?_ ?_ ?_ ?_ ?_
    · exact S.nd
    · exact rfl
    · exact (Or.inl rfl)
    · exact pe_str
    · rfl
    · walk_at "or"
  refine pss_cons ?_ ?_
  · refine ps_if ?_ ?_ ?_
    · exact (pt_cmpR (op_neA (u190 hr)) (pv 1) (pe_tup pa_nil) (nomark _))
    · refine pss_one ?_
      refine ps_set (i := 4) ?_ ?_ ?_ ?_ ?_ ?_
      · exact S.nd
      · exact rfl
      · exact (Or.inl rfl)
      · exact (pe_ix (ix_any' (hu_of hr)) (pv 1) (pe_un un_neg pe_int) (fun _ _ => rfl))
      · rfl
      · walk_at "or"
    · exact pss_nil
  refine pss_cons ?_ ?_
  · refine ps_set (i := 5) ?_ ?_ ?_ ?_ ?_ ?_
    · exact S.nd
    · exact rfl
    · exact (Or.inl rfl)
    · exact (pe_call (ok__law_row T) (hr.mono (by walk_at "le")) rfl T.m__law_row T.F__law_row.kp T.b__law_row .nil pass0 (pa_cons (pv 0) (pa_cons (pv 4) pa_nil)))
    · rfl
    · walk_at "or"
  refine pss_cons ?_ ?_
  · refine ps_if ?_ ?_ ?_
    · exact (pt_val (pe_callB call_isinstanceA rfl T.z_isinstance boot_isinstance (pa_cons (pv 2) (pa_cons (pe_bltn rfl T.z_str boot_str rfl) pa_nil))))
    · refine pss_cons ?_ ?_
      · refine ps_if ?_ ?_ ?_
        · exact (pt_cmpR (op_eqA (u190 hr)) (pe_ix (ix_any' (hu_of hr)) (pv 5) pe_int (fun _ _ => rfl)) pe_str (nomark _))
        · refine pss_one ?_
          exact (ps_ret pe_str)
        · exact pss_nil
      refine pss_cons ?_ ?_
      · refine ps_if ?_ ?_ ?_
        · exact (pt_cmpR (op_eqA (u190 hr)) (pv 2) pe_str (nomark _))
        · refine pss_one ?_
          exact (ps_ret pe_str)
        · exact pss_nil
      refine pss_cons ?_ ?_
      · refine ps_if ?_ ?_ ?_
        · exact (pt_val (pe_callB call_isinstanceA rfl T.z_isinstance boot_isinstance (pa_cons (pv 3) (pa_cons (pe_bltn rfl T.z_str boot_str rfl) pa_nil))))
        · refine pss_one ?_
          exact (ps_ret pe_str)
        · exact pss_nil
      refine pss_one ?_
      exact (ps_ret pe_non)
    · exact pss_nil
  refine pss_cons ?_ ?_
  · exact (ps_asg (pe_call (ok__law_row T) (hr.mono (by walk_at "le")) rfl T.m__law_row T.F__law_row.kp T.b__law_row .nil pass0 (pa_cons (pv 0) (pa_cons (pe_ix (ix_any' (hu_of hr)) (pv 2) pe_int (fun _ _ => rfl)) pa_nil))) (pg_tup rfl (pgs_cons (pg_name (i := 6) S.nd rfl (Or.inr rfl)) (pgs_cons (pg_name (i := 7) S.nd rfl (Or.inl rfl)) (pgs_cons (pg_name (i := 8) S.nd rfl (Or.inl rfl)) (pgs_cons (pg_name (i := 9) S.nd rfl (Or.inr rfl)) (pgs_cons (pg_name (i := 10) S.nd rfl (Or.inr rfl)) pgs_nil)))))))
  refine pss_cons ?_ ?_
  · refine ps_if ?_ ?_ ?_
    · exact (pt_cmpR (op_eqA (u190 hr)) (pv 7) pe_str (nomark _))
    · refine pss_one ?_
      exact (ps_ret pe_str)
    · exact pss_nil
  refine pss_cons ?_ ?_
  · refine ps_if ?_ ?_ ?_
    · exact (PW.pt (pw_and (pt_cmpR (op_eqA (u190 hr)) (pv 7) pe_str (nomark _)) (pw_and1 (pt_cmpR op_gtA (pe_callB call_lenA rfl T.z_len boot_len (pa_cons (pe_ix (ix_any' (hu_of hr)) (pv 2) pe_int (fun _ _ => rfl)) pa_nil)) pe_int (nomark _)))))
    · refine pss_one ?_
      exact (ps_ret pe_str)
    · exact pss_nil
  refine pss_cons ?_ ?_
  · refine ps_if ?_ ?_ ?_
    · exact (pt_cmpR op_geA (pe_callB call_lenA rfl T.z_len boot_len (pa_cons (pv 1) pa_nil)) pe_int (nomark _))
    · refine pss_one ?_
      exact (ps_ret pe_str)
    · exact pss_nil
  refine pss_cons ?_ ?_
  · refine ps_if ?_ ?_ ?_
    · exact (PW.pt (pw_and (pt_cmpR (op_eqA (u190 hr)) (pe_ix (ix_any' (hu_of hr)) (pv 5) pe_int (fun _ _ => rfl)) pe_str (nomark _)) (pw_and1 (pt_cmpR (op_neA (u190 hr)) (pe_ix (ix_any' (hu_of hr)) (pv 5) pe_int (fun _ _ => rfl)) (pv 6) (nomark _)))))
    · refine pss_one ?_
      exact (ps_ret pe_str)
    · exact pss_nil
  refine pss_cons ?_ ?_
  · exact (ps_setC (i := 11) S.nd rfl rfl rfl (comp_scope (osc := defScope s__law_fault) (ON := ["_law_book_here", "_law_names", "_law_part", "_law_ahead", "_law_above", "_law_frame", "_law_name_here", "_law_sort", "_law_host", "_law_shuts", "_law_bars", "_law_frames", "_law_near_here"]) (N := ["_law_name_here", "_law_row_here"]) (fr := [some 6, none]) (by decide +kernel) rfl rfl) (pi_any (pv 0)) (fun _ _ _ _ _ _ => (pg_name (i := 1) (show List.Nodup (["_law_name_here", "_law_row_here"] : List Str) by decide +kernel) rfl (Or.inl rfl))) tg_name (fun _ _ _ _ _ _ => (pts_one (pt_cmpR (op_eqA (u190 hr)) (pe_ix (ix_any' (hu_of hr)) (pv 1) pe_int (fun _ _ => rfl)) (pv 0) (nomark _)))) (fun _ _ _ _ _ _ => (pe_ix (ix_any' (hu_of hr)) (pv 1) pe_int (fun _ _ => rfl))))
  refine pss_cons ?_ ?_
  · refine ps_if ?_ ?_ ?_
    · exact (PW.pt (pw_and (pt_cmpR (op_neA (u190 hr)) (pv 11) (pe_lst pa_nil) (nomark _)) (pw_and1 (pt_cmpR (op_neA (u190 hr)) (pv 11) (pe_lst (pa_cons (pv 4) pa_nil)) (nomark _)))))
    · refine pss_one ?_
      exact (ps_ret pe_str)
    · exact pss_nil
  refine pss_cons ?_ ?_
  · refine ps_set (i := 12) ?_ ?_ ?_ ?_ ?_ ?_
    · exact S.nd
    · exact rfl
    · exact (Or.inl rfl)
    · exact (pe_call (ok__law_near T) (hr.mono (by walk_at "le")) rfl T.m__law_near T.F__law_near.kp T.b__law_near .nil pass0 (pa_cons (pv 0) (pa_cons (pv 1) pa_nil)))
    · rfl
    · walk_at "or"
  refine pss_cons ?_ ?_
  · refine ps_if ?_ ?_ ?_
    · exact (pt_cmpR (op_neA (u190 hr)) (pe_comp rfl (comp_scope (osc := defScope s__law_fault) (ON := ["_law_book_here", "_law_names", "_law_part", "_law_ahead", "_law_above", "_law_frame", "_law_name_here", "_law_sort", "_law_host", "_law_shuts", "_law_bars", "_law_frames", "_law_near_here"]) (N := ["_law_shuts", "_law_one"]) (fr := [some 9, none]) (by decide +kernel) rfl rfl) (pi_any (pv 12)) (fun _ _ _ _ _ _ => (pg_name (i := 1) (show List.Nodup (["_law_shuts", "_law_one"] : List Str) by decide +kernel) rfl (Or.inl rfl))) tg_name (fun _ _ _ _ _ _ => (pts_one (pt_cmpR (op_inB (hu_of hr)) (pv 1) (pv 0) (by with_unfolding_all rfl)))) (fun _ _ _ _ _ _ => (pv 1))) (pe_lst pa_nil) (nomark _))
    · refine pss_one ?_
      exact (ps_ret pe_str)
    · exact pss_nil
  refine pss_cons ?_ ?_
  · refine ps_if ?_ ?_ ?_
    · exact (pt_cmpR (op_neA (u190 hr)) (pe_comp rfl (comp_scope (osc := defScope s__law_fault) (ON := ["_law_book_here", "_law_names", "_law_part", "_law_ahead", "_law_above", "_law_frame", "_law_name_here", "_law_sort", "_law_host", "_law_shuts", "_law_bars", "_law_frames", "_law_near_here"]) (N := ["_law_bars", "_law_one"]) (fr := [some 10, none]) (by decide +kernel) rfl rfl) (pi_any (pv 12)) (fun _ _ _ _ _ _ => (pg_name (i := 1) (show List.Nodup (["_law_bars", "_law_one"] : List Str) by decide +kernel) rfl (Or.inl rfl))) tg_name (fun _ _ _ _ _ _ => (pts_one (pt_cmpR (op_inB (hu_of hr)) (pv 1) (pv 0) (by with_unfolding_all rfl)))) (fun _ _ _ _ _ _ => (pv 1))) (pe_lst pa_nil) (nomark _))
    · refine pss_one ?_
      exact (ps_ret pe_str)
    · exact pss_nil
  refine pss_one ?_
  exact (ps_ret pe_non)
theorem ok_part_at (T : Txt K mg t) : FnOk P w K mg base CX0 4 t.a_part_at t.d_part_at ["tree", "place"] (sp_part_at K) := by
  refine T.F_part_at.ok sc_part_at (len_part_at K) (fun cdv A outer s H vs Q E hr h => ⟨R_part_at K, ?_, rd_part_at h⟩)
  have S := sc_part_at
  refine pss_one ?_
  exact (ps_ret (pe_ix (ix_any' (hu_of hr)) (pe_call (ok_way_to T) (hr.mono (by walk_at "le")) rfl T.m_way_to T.F_way_to.kp T.b_way_to .nil pass0 (pa_cons (pv 0) (pa_cons (pv 1) pa_nil))) (pe_un un_neg pe_int) (fun _ _ => rfl)))
theorem okx_part_at (T : Txt K mg t) : FnOk P w K mg base (Fly P w) 4 t.a_part_at t.d_part_at ["tree", "place"] (spx_part_at K t.k_NoPlace) := by
  refine T.F_part_at.okX sc_part_at (lenx_part_at K _) (fun cdv A outer s H vs Q E hr h => ⟨Rx_part_at K t.k_NoPlace E, ?_, rdx_part_at h⟩)
  have S := sc_part_at
  refine pss_one ?_
  exact (ps_ret (pe_ix (ix_any' (hu_of hr)) (pe_call (okx_way_to T) (hr.mono (by walk_at "le")) rfl T.m_way_to T.F_way_to.kp T.b_way_to .nil passes_cx (pa_cons (pv 0) (pa_cons (pv 1) pa_nil))) (pe_un un_neg pe_int) (fun _ _ => rfl)))
theorem ok_names_above (T : Txt K mg t) : FnOk P w K mg base CX0 4 t.a_names_above t.d_names_above ["tree", "place"] (sp_names_above K) := by
  refine T.F_names_above.ok sc_names_above (len_names_above K) (fun cdv A outer s H vs Q E hr h => ⟨R_names_above K, ?_, rd_names_above h⟩)
  have S := sc_names_above
  refine pss_one ?_
  refine ps_ret ?_
  exact (pe_callTy call_tupleA rfl T.z_tuple boot_tuple (pa_cons (pe_comp rfl (comp_scope (osc := defScope s_names_above) (ON := ["tree", "place"]) (N := ["above"]) (fr := [none]) (by decide +kernel) rfl rfl) (pi_any (pe_slice sl_any (pe_call (ok_way_to T) (hr.mono (by walk_at "le")) rfl T.m_way_to T.F_way_to.kp T.b_way_to .nil pass0 (pa_cons (pv 0) (pa_cons (pv 1) pa_nil))) (po_some pe_int) (po_some (pe_un un_neg pe_int)))) (fun _ _ _ _ _ _ => (pg_name (i := 0) (show List.Nodup (["above"] : List Str) by decide +kernel) rfl (Or.inl rfl))) tg_name (fun _ _ _ _ _ _ => pts_nil) (fun _ _ _ _ _ _ => (pe_call (ok_name_of T) (hr.mono (by walk_at "le")) rfl T.m_name_of T.F_name_of.kp T.b_name_of .nil pass0 (pa_cons (pv 0) pa_nil)))) pa_nil))
theorem ok_near_of (T : Txt K mg t) : FnOk P w K mg base CX0 4 t.a_near_of t.d_near_of ["book", "names"] (sp_near_of K) := by
  refine T.F_near_of.ok sc_near_of (len_near_of K) (fun cdv A outer s H vs Q E hr h => ⟨R_near_of K, ?_, rd_near_of h⟩)
  have S := sc_near_of
  refine pss_cons ?_ ?_
  · refine ps_set (i := 2) ?_ ?_ ?_ ?_ ?_ ?_
    · exact S.nd
    · exact rfl
    · exact (Or.inl rfl)
    · exact pe_int
    · rfl
    · walk_at "or"
  refine pss_cons ?_ ?_
  · refine ps_for PassesOwn.never rfl ?_ ?_ ?_
    · exact (pi_enumT rfl T.z_enumerate (pa_cons (pv 1) pa_nil))
    · exact (pg_tup rfl (pgs_cons (pg_name (i := 3) S.nd rfl (Or.inl rfl)) (pgs_cons (pg_name (i := 4) S.nd rfl (Or.inl rfl)) pgs_nil)))
    · refine pss_one ?_
      refine ps_if ?_ ?_ ?_
      · exact (pt_val (pe_call (ok_is_wall T) (hr.mono (by walk_at "le")) rfl T.m_is_wall T.F_is_wall.kp T.b_is_wall .nil pass0 (pa_cons (pv 0) (pa_cons (pv 4) pa_nil))))
      · refine pss_one ?_
        refine ps_set (i := 2) ?_ ?_ ?_ ?_ ?_ ?_
        · exact S.nd
        · exact rfl
        · exact (Or.inl rfl)
        · exact (pe_op op_addB (pv 3) pe_int)
        · rfl
        · walk_at "or"
      · exact pss_nil
  refine pss_one ?_
  exact (ps_ret (pe_callTy call_tupleA rfl T.z_tuple boot_tuple (pa_cons (pe_slice sl_anyB (pv 1) (po_some (pv 2)) po_none) pa_nil)))
theorem ok__law_faults (T : Txt K mg t) : FnOk P w K mg base CX0 4 t.a__law_faults t.d__law_faults ["_law_book_here", "_law_tree_here"] (sp__law_faults K) := by
  refine T.F__law_faults.ok sc__law_faults (len__law_faults K) (fun cdv A outer s H vs Q E hr h => ⟨R__law_faults K, ?_, rd__law_faults h⟩)
  have S := sc__law_faults
  refine pss_cons ?_ ?_
  · refine ps_set (i := 2) ?_ ?_ ?_ ?_ ?_ ?_
    · exact S.nd
    · exact rfl
    · exact (Or.inl rfl)
    · exact (pe_lst pa_nil)
    · rfl
    · walk_at "or"
  refine pss_cons ?_ ?_
  · refine ps_set (i := 3) ?_ ?_ ?_ ?_ ?_ ?_
    · exact S.nd
    · exact rfl
    · exact (Or.inl rfl)
    · exact (pe_call (ok__law_walk T) (hr.mono (by walk_at "le")) rfl T.m__law_walk T.F__law_walk.kp T.b__law_walk .nil pass0 (pa_cons (pv 1) pa_nil))
    · rfl
    · walk_at "or"
  refine pss_cons ?_ ?_
  · refine ps_set (i := 4) ?_ ?_ ?_ ?_ ?_ ?_
    · exact S.nd
    · exact rfl
    · exact (Or.inl rfl)
    · exact pe_dnewT
    · rfl
    · walk_at "or"
  refine pss_cons ?_ ?_
  · refine ps_for PassesOwn.never rfl ?_ ?_ ?_
    · exact (pi_any (pv 3))
    · exact (pg_tup rfl (pgs_cons (pg_name (i := 5) S.nd rfl (Or.inl rfl)) (pgs_cons (pg_name (i := 6) S.nd rfl (Or.inl rfl)) (pgs_cons (pg_name (i := 7) S.nd rfl (Or.inl rfl)) pgs_nil))))
    · refine pss_cons ?_ ?_
      · exact (ps_asg (pv 7) (pg_sub (pv 4) (pv 5) (set_any' (hu_of hr))))
      refine pss_one ?_
      refine ps_if ?_ ?_ ?_
      · exact (pt_cmpR (op_neA (u190 hr)) (pv 5) (pe_tup pa_nil) (nomark _))
      · refine pss_cons ?_ ?_
        · refine ps_set (i := 8) ?_ ?_ ?_ ?_ ?_ ?_
          · exact S.nd
          · exact rfl
          · exact (Or.inl rfl)
          · exact (pe_dget1 (hu_of hr) (pv 4) (pe_op op_addB (pe_slice sl_anyB (pv 5) po_none (po_some (pe_un un_neg pe_int))) (pe_tup (pa_cons (pe_op op_sub (pe_ix (ix_any' (hu_of hr)) (pv 5) (pe_un un_neg pe_int) (fun _ _ => rfl)) pe_int) pa_nil))) m1)
          · rfl
          · walk_at "or"
        refine pss_one ?_
        exact (ps_expr (pe_bm PySem.F.plainAttrs_list PySem.F.slot_list_append PySem.F.type_list_append mt_append (pv 2) (pa_cons (pe_tup (pa_cons (pe_call (ok__law_fault T) (hr.mono (by walk_at "le")) rfl T.m__law_fault T.F__law_fault.kp T.b__law_fault .nil pass0 (pa_cons (pv 0) (pa_cons (pv 6) (pa_cons (pv 7) (pa_cons (pv 8) pa_nil))))) (pa_cons (pv 5) pa_nil))) pa_nil)))
      · exact pss_nil
  refine pss_one ?_
  exact (ps_ret (pv 2))
theorem ok_follows_text (T : Txt K mg t) : FnOk P w K mg base CX0 5 t.a_follows_text t.d_follows_text ["tree", "place"] (sp_follows_text K) := by
  refine T.F_follows_text.ok sc_follows_text (len_follows_text K) (fun cdv A outer s H vs Q E hr h => ⟨R_follows_text K, ?_, rd_follows_text h⟩)
  have S := sc_follows_text
  refine pss_cons ?_ ?_
  · refine ps_set (i := 2) ?_ ?_ ?_ ?_ ?_ ?_
    · exact S.nd
    · exact rfl
    · exact (Or.inl rfl)
    · exact (pe_ix (ix_any' (hu_of hr)) (pv 1) (pe_un un_neg pe_int) (fun _ _ => rfl))
    · rfl
    · walk_at "or"
  refine pss_one ?_
  exact (ps_ret (pe_and (pe_cmpR op_gtA (pv 2) pe_int (nomark _)) (pe_one (pe_call (ok_is_text T) (hr.mono (by walk_at "le")) rfl T.m_is_text T.F_is_text.kp T.b_is_text .nil pass0 (pa_cons (pe_call (ok_part_at T) (hr.mono (by walk_at "le")) rfl T.m_part_at T.F_part_at.kp T.b_part_at .nil pass0 (pa_cons (pv 0) (pa_cons (pe_op op_addB (pe_slice sl_anyB (pv 1) po_none (po_some (pe_un un_neg pe_int))) (pe_tup (pa_cons (pe_op op_sub (pv 2) pe_int) pa_nil))) pa_nil))) pa_nil)))))
theorem ok_near_fault (T : Txt K mg t) : FnOk P w K mg base CX0 5 t.a_near_fault t.d_near_fault ["book", "names", "name"] (sp_near_fault K) := by
  refine T.F_near_fault.ok sc_near_fault (len_near_fault K) (fun cdv A outer s H vs Q E hr h => ⟨R_near_fault K, ?_, rd_near_fault h⟩)
  have S := sc_near_fault
  refine pss_cons ?_ ?_
  · refine ps_set (i := 3) ?_ ?_ ?_ ?_ ?_ ?_
    · exact S.nd
    · exact rfl
    · exact (Or.inl rfl)
    · exact (pe_call (ok_row_of T) (hr.mono (by walk_at "le")) rfl T.m_row_of T.F_row_of.kp T.b_row_of .nil pass0 (pa_cons (pv 0) (pa_cons (pv 2) pa_nil)))
    · rfl
    · walk_at "or"
  refine pss_cons ?_ ?_
  · refine ps_set (i := 4) ?_ ?_ ?_ ?_ ?_ ?_
    · exact S.nd
    · exact rfl
    · exact (Or.inl rfl)
    · exact (pe_call (ok_near_of T) (hr.mono (by walk_at "le")) rfl T.m_near_of T.F_near_of.kp T.b_near_of .nil pass0 (pa_cons (pv 0) (pa_cons (pv 1) pa_nil)))
    · rfl
    · walk_at "or"
  refine pss_cons ?_ ?_
  · refine ps_if ?_ ?_ ?_
    · exact (pt_val (pe_call (ok_share_a_name T) (hr.mono (by walk_at "le")) rfl T.m_share_a_name T.F_share_a_name.kp T.b_share_a_name .nil pass0 (pa_cons (pv 4) (pa_cons (pe_ix (ix_any' (hu_of hr)) (pv 3) (pe_glob rfl T.g_SHUTS.1 T.g_SHUTS.2) (fun _ _ => rfl)) pa_nil))))
    · refine pss_one ?_
      exact (ps_ret pe_str)
    · exact pss_nil
  refine pss_one ?_
  exact (ps_ret (pe_ifExp (pt_val (pe_call (ok_share_a_name T) (hr.mono (by walk_at "le")) rfl T.m_share_a_name T.F_share_a_name.kp T.b_share_a_name .nil pass0 (pa_cons (pv 4) (pa_cons (pe_ix (ix_any' (hu_of hr)) (pv 3) (pe_glob rfl T.g_BARS.1 T.g_BARS.2) (fun _ _ => rfl)) pa_nil)))) pe_str pe_non))
theorem ok_tree_fault (T : Txt K mg t) : FnOk P w K mg base CX0 6 t.a_tree_fault t.d_tree_fault ["book", "names", "tree"] (sp_tree_fault K) := by
  refine T.F_tree_fault.ok sc_tree_fault (len_tree_fault K) (fun cdv A outer s H vs Q E hr h => ⟨R_tree_fault K, ?_, rd_tree_fault h⟩)
  have S := sc_tree_fault
  refine pss_cons ?_ ?_
  · refine ps_set (i := 3) ?_ ?_ ?_ ?_ ?_ ?_
    · exact S.nd
    · exact rfl
    · exact (Or.inl rfl)
    · refine pe_call (ok_sort_of T) (hr.mono (by walk_at "le")) rfl T.m_sort_of T.F_sort_of.kp T.b_sort_of .nil pass0 ?_
      refine pa_cons ?_ ?_
      · exact (pv 0)
      refine pa_cons ?_ ?_
      · exact (pe_call (ok_name_of T) (hr.mono (by walk_at "le")) rfl T.m_name_of T.F_name_of.kp T.b_name_of .nil pass0 (pa_cons (pv 2) pa_nil))
      exact pa_nil
    · rfl
    · walk_at "or"
  refine pss_cons ?_ ?_
  · refine ps_if ?_ ?_ ?_
    · exact (pt_cmpR op_isA (pv 3) pe_non (nomark _))
    · refine pss_one ?_
      exact (ps_ret pe_str)
    · exact pss_nil
  refine pss_cons ?_ ?_
  · refine ps_if ?_ ?_ ?_
    · exact (PW.pt (pw_and (pt_cmpR (op_eqA (u190 hr)) (pv 3) pe_str (nomark _)) (pw_and1 (pt_cmpR op_gtA (pe_callB call_lenA rfl T.z_len boot_len (pa_cons (pe_call (ok_parts_of T) (hr.mono (by walk_at "le")) rfl T.m_parts_of T.F_parts_of.kp T.b_parts_of .nil pass0 (pa_cons (pv 2) pa_nil)) pa_nil)) pe_int (nomark _)))))
    · refine pss_one ?_
      exact (ps_ret pe_str)
    · exact pss_nil
  refine pss_cons ?_ ?_
  · refine ps_if ?_ ?_ ?_
    · exact (pt_cmpR op_gtA (pe_callB call_lenA rfl T.z_len boot_len (pa_cons (pv 1) pa_nil)) (pe_glob rfl T.g_MOST_ABOVE.1 T.g_MOST_ABOVE.2) (nomark _))
    · refine pss_one ?_
      exact (ps_ret pe_str)
    · exact pss_nil
  refine pss_one ?_
  refine ps_ret ?_
  exact (pe_orT (pe_call (ok_frame_fault T) (hr.mono (by walk_at "le")) rfl T.m_frame_fault T.F_frame_fault.kp T.b_frame_fault .nil pass0 (pa_cons (pv 0) (pa_cons (pv 1) (pa_cons (pe_call (ok_name_of T) (hr.mono (by walk_at "le")) rfl T.m_name_of T.F_name_of.kp T.b_name_of .nil pass0 (pa_cons (pv 2) pa_nil)) pa_nil)))) (pe_one (pe_call (ok_near_fault T) (hr.mono (by walk_at "le")) rfl T.m_near_fault T.F_near_fault.kp T.b_near_fault .nil pass0 (pa_cons (pv 0) (pa_cons (pv 1) (pa_cons (pe_call (ok_name_of T) (hr.mono (by walk_at "le")) rfl T.m_name_of T.F_name_of.kp T.b_name_of .nil pass0 (pa_cons (pv 2) pa_nil)) pa_nil))))))
theorem ok_fault_at (T : Txt K mg t) : FnOk P w K mg base CX0 7 t.a_fault_at t.d_fault_at ["book", "tree", "place"] (sp_fault_at K) := by
  refine T.F_fault_at.ok sc_fault_at (len_fault_at K) (fun cdv A outer s H vs Q E hr h => ⟨R_fault_at K, ?_, rd_fault_at h⟩)
  have S := sc_fault_at
  refine pss_cons ?_ ?_
  · refine ps_set (i := 3) ?_ ?_ ?_ ?_ ?_ ?_
    · exact S.nd
    · exact rfl
    · exact (Or.inl rfl)
    · exact (pe_call (ok_part_at T) (hr.mono (by walk_at "le")) rfl T.m_part_at T.F_part_at.kp T.b_part_at .nil pass0 (pa_cons (pv 1) (pa_cons (pv 2) pa_nil)))
    · rfl
    · walk_at "or"
  refine pss_cons ?_ ?_
  · refine ps_set (i := 4) ?_ ?_ ?_ ?_ ?_ ?_
    · exact S.nd
    · exact rfl
    · exact (Or.inl rfl)
    · exact (pe_call (ok_names_above T) (hr.mono (by walk_at "le")) rfl T.m_names_above T.F_names_above.kp T.b_names_above .nil pass0 (pa_cons (pv 1) (pa_cons (pv 2) pa_nil)))
    · rfl
    · walk_at "or"
  refine pss_cons ?_ ?_
  · refine ps_if ?_ ?_ ?_
    · exact (pt_val (pe_call (ok_is_text T) (hr.mono (by walk_at "le")) rfl T.m_is_text T.F_is_text.kp T.b_is_text .nil pass0 (pa_cons (pv 3) pa_nil)))
    · refine pss_one ?_
      exact (ps_ret (pe_call (ok_text_fault T) (hr.mono (by walk_at "le")) rfl T.m_text_fault T.F_text_fault.kp T.b_text_fault .nil pass0 (pa_cons (pv 0) (pa_cons (pv 4) (pa_cons (pv 3) (pa_cons (pe_call (ok_follows_text T) (hr.mono (by walk_at "le")) rfl T.m_follows_text T.F_follows_text.kp T.b_follows_text .nil pass0 (pa_cons (pv 1) (pa_cons (pv 2) pa_nil))) pa_nil))))))
    · exact pss_nil
  refine pss_one ?_
  exact (ps_ret (pe_call (ok_tree_fault T) (hr.mono (by walk_at "le")) rfl T.m_tree_fault T.F_tree_fault.kp T.b_tree_fault .nil pass0 (pa_cons (pv 0) (pa_cons (pv 4) (pa_cons (pv 3) pa_nil)))))
theorem okx_fault_at (T : Txt K mg t) : FnOk P w K mg base (Fly P w) 7 t.a_fault_at t.d_fault_at ["book", "tree", "place"] (spx_fault_at K t.k_NoPlace) := by
  refine T.F_fault_at.okX sc_fault_at (lenx_fault_at K _) (fun cdv A outer s H vs Q E hr h => ⟨Rx_fault_at K t.k_NoPlace E, ?_, rdx_fault_at h⟩)
  have S := sc_fault_at
  refine pss_cons ?_ ?_
  · refine ps_set (i := 3) ?_ ?_ ?_ ?_ ?_ ?_
    · exact S.nd
    · exact rfl
    · exact (Or.inl rfl)
    · exact (pe_call (okx_part_at T) (hr.mono (by walk_at "le")) rfl T.m_part_at T.F_part_at.kp T.b_part_at .nil passes_cx (pa_cons (pv 1) (pa_cons (pv 2) pa_nil)))
    · rfl
    · walk_at "or"
  refine pss_cons ?_ ?_
  · refine ps_set (i := 4) ?_ ?_ ?_ ?_ ?_ ?_
    · exact S.nd
    · exact rfl
    · exact (Or.inl rfl)
    · exact (pe_call (ok_names_above T) (hr.mono (by walk_at "le")) rfl T.m_names_above T.F_names_above.kp T.b_names_above .nil pass0 (pa_cons (pv 1) (pa_cons (pv 2) pa_nil)))
    · rfl
    · walk_at "or"
  refine pss_cons ?_ ?_
  · refine ps_if ?_ ?_ ?_
    · exact (pt_val (pe_call (ok_is_text T) (hr.mono (by walk_at "le")) rfl T.m_is_text T.F_is_text.kp T.b_is_text .nil pass0 (pa_cons (pv 3) pa_nil)))
    · refine pss_one ?_
      exact (ps_ret (pe_call (ok_text_fault T) (hr.mono (by walk_at "le")) rfl T.m_text_fault T.F_text_fault.kp T.b_text_fault .nil pass0 (pa_cons (pv 0) (pa_cons (pv 4) (pa_cons (pv 3) (pa_cons (pe_call (ok_follows_text T) (hr.mono (by walk_at "le")) rfl T.m_follows_text T.F_follows_text.kp T.b_follows_text .nil pass0 (pa_cons (pv 1) (pa_cons (pv 2) pa_nil))) pa_nil))))))
    · exact pss_nil
  refine pss_one ?_
  exact (ps_ret (pe_call (ok_tree_fault T) (hr.mono (by walk_at "le")) rfl T.m_tree_fault T.F_tree_fault.kp T.b_tree_fault .nil pass0 (pa_cons (pv 0) (pa_cons (pv 4) (pa_cons (pv 3) pa_nil)))))
theorem okn__law_tree (T : Txt K mg t) : ∀ n : Nat, FnOk P w K mg base CX0 (3 + n) t.a__law_tree t.d__law_tree ["_law_deck", "_law_book_here", "_law_code", "_law_deep"] (spn__law_tree n K)
  | 0 => by
    have FR : FnOk P w K mg base CX0 2 t.a__law_tree t.d__law_tree ["_law_deck", "_law_book_here", "_law_code", "_law_deep"] (prev__law_tree K 0) := ⟨fun _ _ _ _ h => h.elim, fun _ _ _ _ _ _ _ _ _ _ _ _ _ h => h.elim⟩
    refine T.F__law_tree.ok (k := 2) sc__law_tree (len__law_tree K 0) (fun cdv A outer s H vs Q E hr h => ⟨R__law_tree K (prev__law_tree K 0), ?_, rd__law_tree 0 h⟩)
    have S := sc__law_tree
    refine pss_cons ?_ ?_
    · refine ps_set (i := 4) ?_ ?_ ?_ ?_ ?_ ?_
      · exact S.nd
      · exact rfl
      · exact (Or.inl rfl)
      · refine pe_op op_mulA ?_ ?_
        · refine pe_call (ok__law_name T) (hr.mono (by walk_at "le")) rfl T.m__law_name T.F__law_name.kp T.b__law_name .nil pass0 ?_
          refine pa_cons ?_ ?_
          · exact (pv 2)
          refine pa_cons ?_ ?_
          · exact (pe_call (ok__law_draw T) (hr.mono (by walk_at "le")) rfl T.m__law_draw T.F__law_draw.kp T.b__law_draw .nil pass0 (pa_cons (pv 0) (pa_cons pe_int pa_nil)))
          exact pa_nil
        · exact (pe_callTy call_intA rfl T.z_int boot_int (pa_cons (pe_cmpR (op_neA (u190 hr)) (pe_call (ok__law_draw T) (hr.mono (by walk_at "le")) rfl T.m__law_draw T.F__law_draw.kp T.b__law_draw .nil pass0 (pa_cons (pv 0) (pa_cons pe_int pa_nil))) pe_int (nomark _)) pa_nil))
      · rfl
      · walk_at "or"
    refine pss_cons ?_ ?_
    · refine ps_if ?_ ?_ ?_
      · exact (pt_cmpR op_gtA (pe_call (ok__law_draw T) (hr.mono (by walk_at "le")) rfl T.m__law_draw T.F__law_draw.kp T.b__law_draw .nil pass0 (pa_cons (pv 0) (pa_cons pe_int pa_nil))) pe_int (nomark _))
      · refine pss_one ?_
        refine ps_set (i := 4) ?_ ?_ ?_ ?_ ?_ ?_
        · exact S.nd
        · exact rfl
        · exact (Or.inl rfl)
        · refine pe_ix ?_ ?_ ?_ ?_
          · exact ix_any' (hu_of hr)
          · refine pe_ix ?_ ?_ ?_ ?_
            · exact ix_any' (hu_of hr)
            · exact (pv 1)
            · refine pe_call (ok__law_draw T) (hr.mono (by walk_at "le")) rfl T.m__law_draw T.F__law_draw.kp T.b__law_draw .nil pass0 ?_
              refine pa_cons ?_ ?_
              · exact (pv 0)
              refine pa_cons ?_ ?_
              · exact (pe_callB call_lenA rfl T.z_len boot_len (pa_cons (pv 1) pa_nil))
              exact pa_nil
            · exact fun _ _ => rfl
          · exact pe_int
          · exact fun _ _ => rfl
        · rfl
        · walk_at "or"
      · exact pss_nil
    refine pss_cons ?_ ?_
    · refine ps_set (i := 5) ?_ ?_ ?_ ?_ ?_ ?_
      · exact S.nd
      · exact rfl
      · exact (Or.inl rfl)
      · exact (pe_lst pa_nil)
      · rfl
      · walk_at "or"
    refine pss_cons ?_ ?_
    · refine ps_if ?_ ?_ ?_
      · exact (pt_cmpR op_gtA (pv 3) pe_int (nomark _))
      · refine pss_one ?_
        refine ps_for PassesOwn.never rfl ?_ ?_ ?_
        · exact (pi_range1 rfl T.z_range (pa_cons (pe_call (ok__law_draw T) (hr.mono (by walk_at "le")) rfl T.m__law_draw T.F__law_draw.kp T.b__law_draw .nil pass0 (pa_cons (pv 0) (pa_cons pe_int pa_nil))) pa_nil))
        · exact (pg_name (i := 6) S.nd rfl (Or.inl rfl))
        · refine pss_one ?_
          refine ps_if ?_ ?_ ?_
          · exact (pt_cmpR (op_eqA (u190 hr)) (pe_call (ok__law_draw T) (hr.mono (by walk_at "le")) rfl T.m__law_draw T.F__law_draw.kp T.b__law_draw .nil pass0 (pa_cons (pv 0) (pa_cons pe_int pa_nil))) pe_int (nomark _))
          · refine pss_one ?_
            exact (ps_expr (pe_bm PySem.F.plainAttrs_list PySem.F.slot_list_append PySem.F.type_list_append mt_append (pv 5) (pa_cons (pe_op op_mulA (pe_call (ok__law_text T) (hr.mono (by walk_at "le")) rfl T.m__law_text T.F__law_text.kp T.b__law_text .nil pass0 (pa_cons (pv 0) pa_nil)) (pe_callTy call_intA rfl T.z_int boot_int (pa_cons (pe_cmpR (op_neA (u190 hr)) (pe_call (ok__law_draw T) (hr.mono (by walk_at "le")) rfl T.m__law_draw T.F__law_draw.kp T.b__law_draw .nil pass0 (pa_cons (pv 0) (pa_cons pe_int pa_nil))) pe_int (nomark _)) pa_nil))) pa_nil)))
          · refine pss_one ?_
            exact (ps_expr (pe_bm PySem.F.plainAttrs_list PySem.F.slot_list_append PySem.F.type_list_append mt_append (pv 5) (pa_cons (pe_call FR (hr.mono (by omega)) rfl T.m__law_tree T.F__law_tree.kp T.b__law_tree .nil pass0 (pa_cons (pv 0) (pa_cons (pv 1) (pa_cons (pv 2) (pa_cons (pe_op op_sub (pv 3) pe_int) pa_nil))))) pa_nil)))
      · exact pss_nil
    refine pss_one ?_
    exact (ps_ret (pe_tup (pa_cons (pv 4) (pa_cons (pe_callTy call_tupleA rfl T.z_tuple boot_tuple (pa_cons (pv 5) pa_nil)) pa_nil))))
  | n + 1 => by
    have FR : FnOk P w K mg base CX0 (3 + n) t.a__law_tree t.d__law_tree ["_law_deck", "_law_book_here", "_law_code", "_law_deep"] (prev__law_tree K (n + 1)) := okn__law_tree T n
    refine T.F__law_tree.ok (k := (3 + n)) sc__law_tree (len__law_tree K (n + 1)) (fun cdv A outer s H vs Q E hr h => ⟨R__law_tree K (prev__law_tree K (n + 1)), ?_, rd__law_tree (n + 1) h⟩)
    have S := sc__law_tree
    refine pss_cons ?_ ?_
    · refine ps_set (i := 4) ?_ ?_ ?_ ?_ ?_ ?_
      · exact S.nd
      · exact rfl
      · exact (Or.inl rfl)
      · refine pe_op op_mulA ?_ ?_
        · refine pe_call (ok__law_name T) (hr.mono (by walk_at "le")) rfl T.m__law_name T.F__law_name.kp T.b__law_name .nil pass0 ?_
          refine pa_cons ?_ ?_
          · exact (pv 2)
          refine pa_cons ?_ ?_
          · exact (pe_call (ok__law_draw T) (hr.mono (by walk_at "le")) rfl T.m__law_draw T.F__law_draw.kp T.b__law_draw .nil pass0 (pa_cons (pv 0) (pa_cons pe_int pa_nil)))
          exact pa_nil
        · exact (pe_callTy call_intA rfl T.z_int boot_int (pa_cons (pe_cmpR (op_neA (u190 hr)) (pe_call (ok__law_draw T) (hr.mono (by walk_at "le")) rfl T.m__law_draw T.F__law_draw.kp T.b__law_draw .nil pass0 (pa_cons (pv 0) (pa_cons pe_int pa_nil))) pe_int (nomark _)) pa_nil))
      · rfl
      · walk_at "or"
    refine pss_cons ?_ ?_
    · refine ps_if ?_ ?_ ?_
      · exact (pt_cmpR op_gtA (pe_call (ok__law_draw T) (hr.mono (by walk_at "le")) rfl T.m__law_draw T.F__law_draw.kp T.b__law_draw .nil pass0 (pa_cons (pv 0) (pa_cons pe_int pa_nil))) pe_int (nomark _))
      · refine pss_one ?_
        refine ps_set (i := 4) ?_ ?_ ?_ ?_ ?_ ?_
        · exact S.nd
        · exact rfl
        · exact (Or.inl rfl)
        · refine pe_ix ?_ ?_ ?_ ?_
          · exact ix_any' (hu_of hr)
          · refine pe_ix ?_ ?_ ?_ ?_
            · exact ix_any' (hu_of hr)
            · exact (pv 1)
            · refine pe_call (ok__law_draw T) (hr.mono (by walk_at "le")) rfl T.m__law_draw T.F__law_draw.kp T.b__law_draw .nil pass0 ?_
              refine pa_cons ?_ ?_
              · exact (pv 0)
              refine pa_cons ?_ ?_
              · exact (pe_callB call_lenA rfl T.z_len boot_len (pa_cons (pv 1) pa_nil))
              exact pa_nil
            · exact fun _ _ => rfl
          · exact pe_int
          · exact fun _ _ => rfl
        · rfl
        · walk_at "or"
      · exact pss_nil
    refine pss_cons ?_ ?_
    · refine ps_set (i := 5) ?_ ?_ ?_ ?_ ?_ ?_
      · exact S.nd
      · exact rfl
      · exact (Or.inl rfl)
      · exact (pe_lst pa_nil)
      · rfl
      · walk_at "or"
    refine pss_cons ?_ ?_
    · refine ps_if ?_ ?_ ?_
      · exact (pt_cmpR op_gtA (pv 3) pe_int (nomark _))
      · refine pss_one ?_
        refine ps_for PassesOwn.never rfl ?_ ?_ ?_
        · exact (pi_range1 rfl T.z_range (pa_cons (pe_call (ok__law_draw T) (hr.mono (by walk_at "le")) rfl T.m__law_draw T.F__law_draw.kp T.b__law_draw .nil pass0 (pa_cons (pv 0) (pa_cons pe_int pa_nil))) pa_nil))
        · exact (pg_name (i := 6) S.nd rfl (Or.inl rfl))
        · refine pss_one ?_
          refine ps_if ?_ ?_ ?_
          · exact (pt_cmpR (op_eqA (u190 hr)) (pe_call (ok__law_draw T) (hr.mono (by walk_at "le")) rfl T.m__law_draw T.F__law_draw.kp T.b__law_draw .nil pass0 (pa_cons (pv 0) (pa_cons pe_int pa_nil))) pe_int (nomark _))
          · refine pss_one ?_
            exact (ps_expr (pe_bm PySem.F.plainAttrs_list PySem.F.slot_list_append PySem.F.type_list_append mt_append (pv 5) (pa_cons (pe_op op_mulA (pe_call (ok__law_text T) (hr.mono (by walk_at "le")) rfl T.m__law_text T.F__law_text.kp T.b__law_text .nil pass0 (pa_cons (pv 0) pa_nil)) (pe_callTy call_intA rfl T.z_int boot_int (pa_cons (pe_cmpR (op_neA (u190 hr)) (pe_call (ok__law_draw T) (hr.mono (by walk_at "le")) rfl T.m__law_draw T.F__law_draw.kp T.b__law_draw .nil pass0 (pa_cons (pv 0) (pa_cons pe_int pa_nil))) pe_int (nomark _)) pa_nil))) pa_nil)))
          · refine pss_one ?_
            exact (ps_expr (pe_bm PySem.F.plainAttrs_list PySem.F.slot_list_append PySem.F.type_list_append mt_append (pv 5) (pa_cons (pe_call FR (hr.mono (by omega)) rfl T.m__law_tree T.F__law_tree.kp T.b__law_tree .nil pass0 (pa_cons (pv 0) (pa_cons (pv 1) (pa_cons (pv 2) (pa_cons (pe_op op_sub (pv 3) pe_int) pa_nil))))) pa_nil)))
      · exact pss_nil
    refine pss_one ?_
    exact (ps_ret (pe_tup (pa_cons (pv 4) (pa_cons (pe_callTy call_tupleA rfl T.z_tuple boot_tuple (pa_cons (pv 5) pa_nil)) pa_nil))))
theorem ok__law_tree (T : Txt K mg t) : FnOk P w K mg base CX0 8 t.a__law_tree t.d__law_tree ["_law_deck", "_law_book_here", "_law_code", "_law_deep"] (sp__law_tree K) := okn__law_tree T 5
theorem ok__law_no_place (T : Txt K mg t) : FnOk P w K mg base CX0 8 t.a__law_no_place t.d__law_no_place ["_law_book_here", "_law_tree_here", "_law_place"] (sp__law_no_place K) := by
  refine T.F__law_no_place.ok sc__law_no_place (len__law_no_place K) (fun cdv A outer s H vs Q E hr h => ⟨R__law_no_place K t.k_NoPlace, ?_, rd__law_no_place h⟩)
  have S := sc__law_no_place
  refine pss_cons ?_ ?_
  · refine ps_set (i := 3) ?_ ?_ ?_ ?_ ?_ ?_
    · exact S.nd
    · exact rfl
    · exact (Or.inl rfl)
    · exact pe_bl
    · rfl
    · walk_at "or"
  refine pss_cons ?_ ?_
  · exact (ps_tryX (px_call (okx_fault_at T) (hr.mono (by walk_at "le")) rfl T.m_fault_at T.F_fault_at.kp T.b_fault_at .nil (fun _ => (pa_cons (pv 0) (pa_cons (pv 1) (pa_cons (pv 2) pa_nil))))) rfl T.x_NoPlace.mx T.y_NoPlace_NoPlace (fun _ _ => (pss_one (ps_set (i := 3) S.nd rfl (Or.inl rfl) pe_bl))))
  refine pss_one ?_
  exact (ps_ret (pv 3))
theorem ok_law (T : Txt K mg t) : FnOk P w K mg base CX0 9 t.a_law t.d_law ["_law_script"] (sp_law K) := by
  refine T.F_law.ok sc_law (len_law K) (fun cdv A outer s H vs Q E hr h => ⟨R_law K, ?_, rd_law h⟩)
  have S := sc_law
  refine pss_cons ?_ ?_
  · refine ps_set (i := 1) ?_ ?_ ?_ ?_ ?_ ?_
    · exact S.nd
    · exact rfl
    · exact (Or.inl rfl)
    · exact (pe_call (ok__law_numbers T) (hr.mono (by walk_at "le")) rfl T.m__law_numbers T.F__law_numbers.kp T.b__law_numbers .nil pass0 (pa_cons (pv 0) (pa_cons pe_int pa_nil)))
    · rfl
    · walk_at "or"
  refine pss_cons ?_ ?_
  · refine ps_set (i := 2) ?_ ?_ ?_ ?_ ?_ ?_
    · exact S.nd
    · exact rfl
    · exact (Or.inl rfl)
    · exact (pe_call (ok__law_draw T) (hr.mono (by walk_at "le")) rfl T.m__law_draw T.F__law_draw.kp T.b__law_draw .nil pass0 (pa_cons (pv 1) (pa_cons (pe_op op_pow pe_int pe_int) pa_nil)))
    · rfl
    · walk_at "or"
  refine pss_cons ?_ ?_
  · refine ps_set (i := 3) ?_ ?_ ?_ ?_ ?_ ?_
    · exact S.nd
    · exact rfl
    · exact (Or.inl rfl)
    · exact (pe_call (ok__law_book T) (hr.mono (by walk_at "le")) rfl T.m__law_book T.F__law_book.kp T.b__law_book .nil pass0 (pa_cons (pv 1) (pa_cons (pv 2) (pa_cons pe_int pa_nil))))
    · rfl
    · walk_at "or"
  refine pss_cons ?_ ?_
  · refine ps_set (i := 4) ?_ ?_ ?_ ?_ ?_ ?_
    · exact S.nd
    · exact rfl
    · exact (Or.inl rfl)
    · refine pe_tup ?_
      refine pa_cons ?_ ?_
      · exact pe_str
      refine pa_cons ?_ ?_
      · refine pe_tup ?_
        refine pa_cons ?_ ?_
        · exact (pe_call (ok__law_tree T) (hr.mono (by walk_at "le")) rfl T.m__law_tree T.F__law_tree.kp T.b__law_tree .nil pass0 (pa_cons (pv 1) (pa_cons (pv 3) (pa_cons (pv 2) (pa_cons pe_int pa_nil)))))
        refine pa_cons ?_ ?_
        · exact (pe_call (ok__law_text T) (hr.mono (by walk_at "le")) rfl T.m__law_text T.F__law_text.kp T.b__law_text .nil pass0 (pa_cons (pv 1) pa_nil))
        refine pa_cons ?_ ?_
        · exact (pe_call (ok__law_tree T) (hr.mono (by walk_at "le")) rfl T.m__law_tree T.F__law_tree.kp T.b__law_tree .nil pass0 (pa_cons (pv 1) (pa_cons (pv 3) (pa_cons (pv 2) (pa_cons pe_int pa_nil)))))
        exact pa_nil
      exact pa_nil
    · rfl
    · walk_at "or"
  refine pss_cons ?_ ?_
  · refine ps_for PassesOwn.never rfl ?_ ?_ ?_
    · exact (pi_any (pe_call (ok__law_faults T) (hr.mono (by walk_at "le")) rfl T.m__law_faults T.F__law_faults.kp T.b__law_faults .nil pass0 (pa_cons (pv 3) (pa_cons (pv 4) pa_nil))))
    · exact (pg_tup rfl (pgs_cons (pg_name (i := 5) S.nd rfl (Or.inl rfl)) (pgs_cons (pg_name (i := 6) S.nd rfl (Or.inl rfl)) pgs_nil)))
    · refine pss_cons ?_ ?_
      · refine ps_set (i := 7) ?_ ?_ ?_ ?_ ?_ ?_
        · exact S.nd
        · exact rfl
        · exact (Or.inl rfl)
        · exact (pe_call (ok_fault_at T) (hr.mono (by walk_at "le")) rfl T.m_fault_at T.F_fault_at.kp T.b_fault_at .nil pass0 (pa_cons (pv 3) (pa_cons (pv 4) (pa_cons (pv 6) pa_nil))))
        · rfl
        · walk_at "or"
      refine pss_one ?_
      refine ps_if ?_ ?_ ?_
      · exact (PW.pt (pw_or (PW.pt (pw_and (pt_cmpR op_isA (pv 5) pe_non (nomark _)) (pw_and1 (pt_cmpR op_isnotA (pv 7) pe_non (nomark _))))) (pw_or1 (PW.pt (pw_and (pt_cmpR op_isnotA (pv 5) pe_non (nomark _)) (pw_and1 (PW.pt (pw_or (pt_not (pt_val (pe_callB call_isinstanceA rfl T.z_isinstance boot_isinstance (pa_cons (pv 7) (pa_cons (pe_bltn rfl T.z_str boot_str rfl) pa_nil))))) (pw_or1 (pt_cmpR (op_neA (u190 hr)) (pv 7) (pv 5) (nomark _)))))))))))
      · refine pss_one ?_
        exact (ps_ret pe_bl)
      · exact pss_nil
  refine pss_cons ?_ ?_
  · refine ps_set (i := 8) ?_ ?_ ?_ ?_ ?_ ?_
    · exact S.nd
    · exact rfl
    · exact (Or.inl rfl)
    · exact (pe_op op_addB pe_int (pe_call (ok__law_draw T) (hr.mono (by walk_at "le")) rfl T.m__law_draw T.F__law_draw.kp T.b__law_draw .nil pass0 (pa_cons (pv 1) (pa_cons (pe_op op_pow pe_int pe_int) pa_nil))))
    · rfl
    · walk_at "or"
  refine pss_cons ?_ ?_
  · refine ps_for PassesOwn.never rfl ?_ ?_ ?_
    · exact (pi_any (pe_lst (pa_cons (pe_tup (pa_cons (pe_op op_addB pe_int (pv 8)) pa_nil)) (pa_cons (pe_tup (pa_cons pe_int (pa_cons pe_int pa_nil))) (pa_cons (pe_tup (pa_cons (pe_un un_neg pe_int) pa_nil)) (pa_cons (pe_tup (pa_cons pe_int (pa_cons (pe_un un_neg pe_int) pa_nil))) (pa_cons (pe_tup (pa_cons (pe_un un_neg pe_int) pa_nil)) (pa_cons (pe_tup (pa_cons (pe_op op_sub pe_int (pv 8)) pa_nil)) pa_nil))))))))
    · exact (pg_name (i := 6) S.nd rfl (Or.inl rfl))
    · refine pss_one ?_
      refine ps_if ?_ ?_ ?_
      · exact (pt_not (pt_val (pe_call (ok__law_no_place T) (hr.mono (by walk_at "le")) rfl T.m__law_no_place T.F__law_no_place.kp T.b__law_no_place .nil pass0 (pa_cons (pv 3) (pa_cons (pv 4) (pa_cons (pv 6) pa_nil))))))
      · refine pss_one ?_
        exact (ps_ret pe_bl)
      · exact pss_nil
  refine pss_one ?_
  exact (ps_ret pe_bl)
end
theorem all_mk {l : PySem.W.OpenLaw} {w : World} {K : PySem.W.Frag} {h : Heap} {mg : Str → Option Value} {fa f0 f1 f2 f3 f4 f5 f6 f7 f8 f9 f10 f11 f12 f13 f14 f15 f16 f17 f18 f19 f20 f21 f22 f23 f24 f25 f26 f27 f28 f29 f30 f31 f32 f33 f34 : Addr} (X : K.In h) (G : h.Ns mainGlobals mg) (hfa : mg "law" = some (.ref fa))
    {od0 an0 od1 an1 od2 an2 od3 an3 od4 an4 od5 an5 od6 an6 od7 an7 od8 an8 od9 an9 od10 an10 od11 an11 od12 an12 od13 an13 od14 an14 od15 an15 od16 an16 od17 an17 od18 an18 od19 an19 od20 an20 od21 an21 od22 an22 od23 an23 od24 an24 od25 an25 od26 an26 od27 an27 od28 an28 od29 an29 od30 an30 od31 an31 od32 an32 od33 an33 od34 an34 : Option Addr} {sl0 sl1 sl2 sl3 sl4 sl5 sl6 sl7 sl8 sl9 sl10 sl11 sl12 sl13 sl14 sl15 sl16 sl17 sl18 sl19 sl20 sl21 sl22 sl23 sl24 sl25 sl26 sl27 sl28 sl29 sl30 sl31 sl32 sl33 sl34 : Array (Option Value)} {oc0 kV0 dc0 pm0 cd0 ct0 oc1 kV1 dc1 pm1 cd1 ct1 oc2 kV2 dc2 pm2 cd2 ct2 oc3 kV3 dc3 pm3 cd3 ct3 oc4 kV4 dc4 pm4 cd4 ct4 oc5 kV5 dc5 pm5 cd5 ct5 oc6 kV6 dc6 pm6 cd6 ct6 oc7 kV7 dc7 pm7 cd7 ct7 oc8 kV8 dc8 pm8 cd8 ct8 oc9 kV9 dc9 pm9 cd9 ct9 oc10 kV10 dc10 pm10 cd10 ct10 oc11 kV11 dc11 pm11 cd11 ct11 oc12 kV12 dc12 pm12 cd12 ct12 oc13 kV13 dc13 pm13 cd13 ct13 oc14 kV14 dc14 pm14 cd14 ct14 oc15 kV15 dc15 pm15 cd15 ct15 oc16 kV16 dc16 pm16 cd16 ct16 oc17 kV17 dc17 pm17 cd17 ct17 oc18 kV18 dc18 pm18 cd18 ct18 oc19 kV19 dc19 pm19 cd19 ct19 oc20 kV20 dc20 pm20 cd20 ct20 oc21 kV21 dc21 pm21 cd21 ct21 oc22 kV22 dc22 pm22 cd22 ct22 oc23 kV23 dc23 pm23 cd23 ct23 oc24 kV24 dc24 pm24 cd24 ct24 oc25 kV25 dc25 pm25 cd25 ct25 oc26 kV26 dc26 pm26 cd26 ct26 oc27 kV27 dc27 pm27 cd27 ct27 oc28 kV28 dc28 pm28 cd28 ct28 oc29 kV29 dc29 pm29 cd29 ct29 oc30 kV30 dc30 pm30 cd30 ct30 oc31 kV31 dc31 pm31 cd31 ct31 oc32 kV32 dc32 pm32 cd32 ct32 oc33 kV33 dc33 pm33 cd33 ct33 oc34 kV34 dc34 pm34 cd34 ct34 : Value}
    {k_NAME k_SORT k_HOST k_SHUTS k_BARS k_ROOT_NAME k_MOST_ABOVE : Tok}
    {c_WALL_SORTS : Addr} {d_WALL_SORTS : Option Addr} {n_WALL_SORTS : Nat} {sl_WALL_SORTS : Array (Option Value)} {k_WALL_SORTS_0 k_WALL_SORTS_1 : Tok}
    (a0 : PySem.W.nsIn K mainGlobals "row_of" = some (some (.ref f0))) (l0 : K.lookup f0 = some ⟨oc0, od0, .func (PySem.W.fnOf "row_of" "row_of" (defArgs s_row_of) (defBody s_row_of) (defScope s_row_of) .none kV0 dc0 pm0 an0 cd0 ct0), sl0⟩) (c0 : PySem.W.codeIn K cd0 "row_of" = true) (k0 : PySem.W.keepIn K (.ref f0) = true)
    (a1 : PySem.W.nsIn K mainGlobals "sort_of" = some (some (.ref f1))) (l1 : K.lookup f1 = some ⟨oc1, od1, .func (PySem.W.fnOf "sort_of" "sort_of" (defArgs s_sort_of) (defBody s_sort_of) (defScope s_sort_of) .none kV1 dc1 pm1 an1 cd1 ct1), sl1⟩) (c1 : PySem.W.codeIn K cd1 "sort_of" = true) (k1 : PySem.W.keepIn K (.ref f1) = true)
    (a2 : PySem.W.nsIn K mainGlobals "is_wall" = some (some (.ref f2))) (l2 : K.lookup f2 = some ⟨oc2, od2, .func (PySem.W.fnOf "is_wall" "is_wall" (defArgs s_is_wall) (defBody s_is_wall) (defScope s_is_wall) .none kV2 dc2 pm2 an2 cd2 ct2), sl2⟩) (c2 : PySem.W.codeIn K cd2 "is_wall" = true) (k2 : PySem.W.keepIn K (.ref f2) = true)
    (a3 : PySem.W.nsIn K mainGlobals "host_of" = some (some (.ref f3))) (l3 : K.lookup f3 = some ⟨oc3, od3, .func (PySem.W.fnOf "host_of" "host_of" (defArgs s_host_of) (defBody s_host_of) (defScope s_host_of) .none kV3 dc3 pm3 an3 cd3 ct3), sl3⟩) (c3 : PySem.W.codeIn K cd3 "host_of" = true) (k3 : PySem.W.keepIn K (.ref f3) = true)
    (a4 : PySem.W.nsIn K mainGlobals "frame_of" = some (some (.ref f4))) (l4 : K.lookup f4 = some ⟨oc4, od4, .func (PySem.W.fnOf "frame_of" "frame_of" (defArgs s_frame_of) (defBody s_frame_of) (defScope s_frame_of) .none kV4 dc4 pm4 an4 cd4 ct4), sl4⟩) (c4 : PySem.W.codeIn K cd4 "frame_of" = true) (k4 : PySem.W.keepIn K (.ref f4) = true)
    (a5 : PySem.W.nsIn K mainGlobals "is_text" = some (some (.ref f5))) (l5 : K.lookup f5 = some ⟨oc5, od5, .func (PySem.W.fnOf "is_text" "is_text" (defArgs s_is_text) (defBody s_is_text) (defScope s_is_text) .none kV5 dc5 pm5 an5 cd5 ct5), sl5⟩) (c5 : PySem.W.codeIn K cd5 "is_text" = true) (k5 : PySem.W.keepIn K (.ref f5) = true)
    (a6 : PySem.W.nsIn K mainGlobals "name_of" = some (some (.ref f6))) (l6 : K.lookup f6 = some ⟨oc6, od6, .func (PySem.W.fnOf "name_of" "name_of" (defArgs s_name_of) (defBody s_name_of) (defScope s_name_of) .none kV6 dc6 pm6 an6 cd6 ct6), sl6⟩) (c6 : PySem.W.codeIn K cd6 "name_of" = true) (k6 : PySem.W.keepIn K (.ref f6) = true)
    (a7 : PySem.W.nsIn K mainGlobals "parts_of" = some (some (.ref f7))) (l7 : K.lookup f7 = some ⟨oc7, od7, .func (PySem.W.fnOf "parts_of" "parts_of" (defArgs s_parts_of) (defBody s_parts_of) (defScope s_parts_of) .none kV7 dc7 pm7 an7 cd7 ct7), sl7⟩) (c7 : PySem.W.codeIn K cd7 "parts_of" = true) (k7 : PySem.W.keepIn K (.ref f7) = true)
    (a8 : PySem.W.nsIn K mainGlobals "part_at" = some (some (.ref f8))) (l8 : K.lookup f8 = some ⟨oc8, od8, .func (PySem.W.fnOf "part_at" "part_at" (defArgs s_part_at) (defBody s_part_at) (defScope s_part_at) .none kV8 dc8 pm8 an8 cd8 ct8), sl8⟩) (c8 : PySem.W.codeIn K cd8 "part_at" = true) (k8 : PySem.W.keepIn K (.ref f8) = true)
    (a9 : PySem.W.nsIn K mainGlobals "names_above" = some (some (.ref f9))) (l9 : K.lookup f9 = some ⟨oc9, od9, .func (PySem.W.fnOf "names_above" "names_above" (defArgs s_names_above) (defBody s_names_above) (defScope s_names_above) .none kV9 dc9 pm9 an9 cd9 ct9), sl9⟩) (c9 : PySem.W.codeIn K cd9 "names_above" = true) (k9 : PySem.W.keepIn K (.ref f9) = true)
    (a10 : PySem.W.nsIn K mainGlobals "way_to" = some (some (.ref f10))) (l10 : K.lookup f10 = some ⟨oc10, od10, .func (PySem.W.fnOf "way_to" "way_to" (defArgs s_way_to) (defBody s_way_to) (defScope s_way_to) .none kV10 dc10 pm10 an10 cd10 ct10), sl10⟩) (c10 : PySem.W.codeIn K cd10 "way_to" = true) (k10 : PySem.W.keepIn K (.ref f10) = true)
    (a11 : PySem.W.nsIn K mainGlobals "straight_above" = some (some (.ref f11))) (l11 : K.lookup f11 = some ⟨oc11, od11, .func (PySem.W.fnOf "straight_above" "straight_above" (defArgs s_straight_above) (defBody s_straight_above) (defScope s_straight_above) .none kV11 dc11 pm11 an11 cd11 ct11), sl11⟩) (c11 : PySem.W.codeIn K cd11 "straight_above" = true) (k11 : PySem.W.keepIn K (.ref f11) = true)
    (a12 : PySem.W.nsIn K mainGlobals "near_of" = some (some (.ref f12))) (l12 : K.lookup f12 = some ⟨oc12, od12, .func (PySem.W.fnOf "near_of" "near_of" (defArgs s_near_of) (defBody s_near_of) (defScope s_near_of) .none kV12 dc12 pm12 an12 cd12 ct12), sl12⟩) (c12 : PySem.W.codeIn K cd12 "near_of" = true) (k12 : PySem.W.keepIn K (.ref f12) = true)
    (a13 : PySem.W.nsIn K mainGlobals "fault_at" = some (some (.ref f13))) (l13 : K.lookup f13 = some ⟨oc13, od13, .func (PySem.W.fnOf "fault_at" "fault_at" (defArgs s_fault_at) (defBody s_fault_at) (defScope s_fault_at) .none kV13 dc13 pm13 an13 cd13 ct13), sl13⟩) (c13 : PySem.W.codeIn K cd13 "fault_at" = true) (k13 : PySem.W.keepIn K (.ref f13) = true)
    (a14 : PySem.W.nsIn K mainGlobals "follows_text" = some (some (.ref f14))) (l14 : K.lookup f14 = some ⟨oc14, od14, .func (PySem.W.fnOf "follows_text" "follows_text" (defArgs s_follows_text) (defBody s_follows_text) (defScope s_follows_text) .none kV14 dc14 pm14 an14 cd14 ct14), sl14⟩) (c14 : PySem.W.codeIn K cd14 "follows_text" = true) (k14 : PySem.W.keepIn K (.ref f14) = true)
    (a15 : PySem.W.nsIn K mainGlobals "text_fault" = some (some (.ref f15))) (l15 : K.lookup f15 = some ⟨oc15, od15, .func (PySem.W.fnOf "text_fault" "text_fault" (defArgs s_text_fault) (defBody s_text_fault) (defScope s_text_fault) .none kV15 dc15 pm15 an15 cd15 ct15), sl15⟩) (c15 : PySem.W.codeIn K cd15 "text_fault" = true) (k15 : PySem.W.keepIn K (.ref f15) = true)
    (a16 : PySem.W.nsIn K mainGlobals "tree_fault" = some (some (.ref f16))) (l16 : K.lookup f16 = some ⟨oc16, od16, .func (PySem.W.fnOf "tree_fault" "tree_fault" (defArgs s_tree_fault) (defBody s_tree_fault) (defScope s_tree_fault) .none kV16 dc16 pm16 an16 cd16 ct16), sl16⟩) (c16 : PySem.W.codeIn K cd16 "tree_fault" = true) (k16 : PySem.W.keepIn K (.ref f16) = true)
    (a17 : PySem.W.nsIn K mainGlobals "frame_fault" = some (some (.ref f17))) (l17 : K.lookup f17 = some ⟨oc17, od17, .func (PySem.W.fnOf "frame_fault" "frame_fault" (defArgs s_frame_fault) (defBody s_frame_fault) (defScope s_frame_fault) .none kV17 dc17 pm17 an17 cd17 ct17), sl17⟩) (c17 : PySem.W.codeIn K cd17 "frame_fault" = true) (k17 : PySem.W.keepIn K (.ref f17) = true)
    (a18 : PySem.W.nsIn K mainGlobals "near_fault" = some (some (.ref f18))) (l18 : K.lookup f18 = some ⟨oc18, od18, .func (PySem.W.fnOf "near_fault" "near_fault" (defArgs s_near_fault) (defBody s_near_fault) (defScope s_near_fault) .none kV18 dc18 pm18 an18 cd18 ct18), sl18⟩) (c18 : PySem.W.codeIn K cd18 "near_fault" = true) (k18 : PySem.W.keepIn K (.ref f18) = true)
    (a19 : PySem.W.nsIn K mainGlobals "share_a_name" = some (some (.ref f19))) (l19 : K.lookup f19 = some ⟨oc19, od19, .func (PySem.W.fnOf "share_a_name" "share_a_name" (defArgs s_share_a_name) (defBody s_share_a_name) (defScope s_share_a_name) .none kV19 dc19 pm19 an19 cd19 ct19), sl19⟩) (c19 : PySem.W.codeIn K cd19 "share_a_name" = true) (k19 : PySem.W.keepIn K (.ref f19) = true)
    (a20 : PySem.W.nsIn K mainGlobals "_law_numbers" = some (some (.ref f20))) (l20 : K.lookup f20 = some ⟨oc20, od20, .func (PySem.W.fnOf "_law_numbers" "_law_numbers" (defArgs s__law_numbers) (defBody s__law_numbers) (defScope s__law_numbers) .none kV20 dc20 pm20 an20 cd20 ct20), sl20⟩) (c20 : PySem.W.codeIn K cd20 "_law_numbers" = true) (k20 : PySem.W.keepIn K (.ref f20) = true)
    (a21 : PySem.W.nsIn K mainGlobals "_law_draw" = some (some (.ref f21))) (l21 : K.lookup f21 = some ⟨oc21, od21, .func (PySem.W.fnOf "_law_draw" "_law_draw" (defArgs s__law_draw) (defBody s__law_draw) (defScope s__law_draw) .none kV21 dc21 pm21 an21 cd21 ct21), sl21⟩) (c21 : PySem.W.codeIn K cd21 "_law_draw" = true) (k21 : PySem.W.keepIn K (.ref f21) = true)
    (a22 : PySem.W.nsIn K mainGlobals "_law_name" = some (some (.ref f22))) (l22 : K.lookup f22 = some ⟨oc22, od22, .func (PySem.W.fnOf "_law_name" "_law_name" (defArgs s__law_name) (defBody s__law_name) (defScope s__law_name) .none kV22 dc22 pm22 an22 cd22 ct22), sl22⟩) (c22 : PySem.W.codeIn K cd22 "_law_name" = true) (k22 : PySem.W.keepIn K (.ref f22) = true)
    (a23 : PySem.W.nsIn K mainGlobals "_law_sorts" = some (some (.ref f23))) (l23 : K.lookup f23 = some ⟨oc23, od23, .func (PySem.W.fnOf "_law_sorts" "_law_sorts" (defArgs s__law_sorts) (defBody s__law_sorts) (defScope s__law_sorts) .none kV23 dc23 pm23 an23 cd23 ct23), sl23⟩) (c23 : PySem.W.codeIn K cd23 "_law_sorts" = true) (k23 : PySem.W.keepIn K (.ref f23) = true)
    (a24 : PySem.W.nsIn K mainGlobals "_law_some" = some (some (.ref f24))) (l24 : K.lookup f24 = some ⟨oc24, od24, .func (PySem.W.fnOf "_law_some" "_law_some" (defArgs s__law_some) (defBody s__law_some) (defScope s__law_some) .none kV24 dc24 pm24 an24 cd24 ct24), sl24⟩) (c24 : PySem.W.codeIn K cd24 "_law_some" = true) (k24 : PySem.W.keepIn K (.ref f24) = true)
    (a25 : PySem.W.nsIn K mainGlobals "_law_book" = some (some (.ref f25))) (l25 : K.lookup f25 = some ⟨oc25, od25, .func (PySem.W.fnOf "_law_book" "_law_book" (defArgs s__law_book) (defBody s__law_book) (defScope s__law_book) .none kV25 dc25 pm25 an25 cd25 ct25), sl25⟩) (c25 : PySem.W.codeIn K cd25 "_law_book" = true) (k25 : PySem.W.keepIn K (.ref f25) = true)
    (a26 : PySem.W.nsIn K mainGlobals "_law_text" = some (some (.ref f26))) (l26 : K.lookup f26 = some ⟨oc26, od26, .func (PySem.W.fnOf "_law_text" "_law_text" (defArgs s__law_text) (defBody s__law_text) (defScope s__law_text) .none kV26 dc26 pm26 an26 cd26 ct26), sl26⟩) (c26 : PySem.W.codeIn K cd26 "_law_text" = true) (k26 : PySem.W.keepIn K (.ref f26) = true)
    (a27 : PySem.W.nsIn K mainGlobals "_law_tree" = some (some (.ref f27))) (l27 : K.lookup f27 = some ⟨oc27, od27, .func (PySem.W.fnOf "_law_tree" "_law_tree" (defArgs s__law_tree) (defBody s__law_tree) (defScope s__law_tree) .none kV27 dc27 pm27 an27 cd27 ct27), sl27⟩) (c27 : PySem.W.codeIn K cd27 "_law_tree" = true) (k27 : PySem.W.keepIn K (.ref f27) = true)
    (a28 : PySem.W.nsIn K mainGlobals "_law_walk" = some (some (.ref f28))) (l28 : K.lookup f28 = some ⟨oc28, od28, .func (PySem.W.fnOf "_law_walk" "_law_walk" (defArgs s__law_walk) (defBody s__law_walk) (defScope s__law_walk) .none kV28 dc28 pm28 an28 cd28 ct28), sl28⟩) (c28 : PySem.W.codeIn K cd28 "_law_walk" = true) (k28 : PySem.W.keepIn K (.ref f28) = true)
    (a29 : PySem.W.nsIn K mainGlobals "_law_row" = some (some (.ref f29))) (l29 : K.lookup f29 = some ⟨oc29, od29, .func (PySem.W.fnOf "_law_row" "_law_row" (defArgs s__law_row) (defBody s__law_row) (defScope s__law_row) .none kV29 dc29 pm29 an29 cd29 ct29), sl29⟩) (c29 : PySem.W.codeIn K cd29 "_law_row" = true) (k29 : PySem.W.keepIn K (.ref f29) = true)
    (a30 : PySem.W.nsIn K mainGlobals "_law_near" = some (some (.ref f30))) (l30 : K.lookup f30 = some ⟨oc30, od30, .func (PySem.W.fnOf "_law_near" "_law_near" (defArgs s__law_near) (defBody s__law_near) (defScope s__law_near) .none kV30 dc30 pm30 an30 cd30 ct30), sl30⟩) (c30 : PySem.W.codeIn K cd30 "_law_near" = true) (k30 : PySem.W.keepIn K (.ref f30) = true)
    (a31 : PySem.W.nsIn K mainGlobals "_law_fault" = some (some (.ref f31))) (l31 : K.lookup f31 = some ⟨oc31, od31, .func (PySem.W.fnOf "_law_fault" "_law_fault" (defArgs s__law_fault) (defBody s__law_fault) (defScope s__law_fault) .none kV31 dc31 pm31 an31 cd31 ct31), sl31⟩) (c31 : PySem.W.codeIn K cd31 "_law_fault" = true) (k31 : PySem.W.keepIn K (.ref f31) = true)
    (a32 : PySem.W.nsIn K mainGlobals "_law_faults" = some (some (.ref f32))) (l32 : K.lookup f32 = some ⟨oc32, od32, .func (PySem.W.fnOf "_law_faults" "_law_faults" (defArgs s__law_faults) (defBody s__law_faults) (defScope s__law_faults) .none kV32 dc32 pm32 an32 cd32 ct32), sl32⟩) (c32 : PySem.W.codeIn K cd32 "_law_faults" = true) (k32 : PySem.W.keepIn K (.ref f32) = true)
    (a33 : PySem.W.nsIn K mainGlobals "_law_no_place" = some (some (.ref f33))) (l33 : K.lookup f33 = some ⟨oc33, od33, .func (PySem.W.fnOf "_law_no_place" "_law_no_place" (defArgs s__law_no_place) (defBody s__law_no_place) (defScope s__law_no_place) .none kV33 dc33 pm33 an33 cd33 ct33), sl33⟩) (c33 : PySem.W.codeIn K cd33 "_law_no_place" = true) (k33 : PySem.W.keepIn K (.ref f33) = true)
    (a34 : PySem.W.nsIn K mainGlobals "law" = some (some (.ref f34))) (l34 : K.lookup f34 = some ⟨oc34, od34, .func (PySem.W.fnOf "law" "law" (defArgs s_law) (defBody s_law) (defScope s_law) .none kV34 dc34 pm34 an34 cd34 ct34), sl34⟩) (c34 : PySem.W.codeIn K cd34 "law" = true) (k34 : PySem.W.keepIn K (.ref f34) = true)
    (uNAME : PySem.W.nsIn K mainGlobals "NAME" = some (some (.int 0 k_NAME)))
    (uSORT : PySem.W.nsIn K mainGlobals "SORT" = some (some (.int 1 k_SORT)))
    (uHOST : PySem.W.nsIn K mainGlobals "HOST" = some (some (.int 2 k_HOST)))
    (uSHUTS : PySem.W.nsIn K mainGlobals "SHUTS" = some (some (.int 3 k_SHUTS)))
    (uBARS : PySem.W.nsIn K mainGlobals "BARS" = some (some (.int 4 k_BARS)))
    (uROOT_NAME : PySem.W.nsIn K mainGlobals "ROOT_NAME" = some (some (.str ("" : Str) k_ROOT_NAME)))
    (uMOST_ABOVE : PySem.W.nsIn K mainGlobals "MOST_ABOVE" = some (some (.int 19 k_MOST_ABOVE)))
    (uWALL_SORTS : PySem.W.nsIn K mainGlobals "WALL_SORTS" = some (some (.ref c_WALL_SORTS))) (wWALL_SORTS : K.lookup c_WALL_SORTS = some ⟨.type "tuple", d_WALL_SORTS, .seq #[.str ("room" : Str) k_WALL_SORTS_0, .str ("frame" : Str) k_WALL_SORTS_1] n_WALL_SORTS, sl_WALL_SORTS⟩)
    {k_NoPlace : Addr} (eNoPlace : PySem.W.nsIn K mainGlobals "NoPlace" = some (some (.ref k_NoPlace))) (xNoPlace : PySem.W.excIn K k_NoPlace bmV "ValueError.__new__" = true)
    (yNoPlace_NoPlace : PySem.W.exmOne K (.ref k_NoPlace) (.ref k_NoPlace) = some true)
    (zany : PySem.W.nsIn K mainGlobals "any" = some none) (zenumerate : PySem.W.nsIn K mainGlobals "enumerate" = some none) (zint : PySem.W.nsIn K mainGlobals "int" = some none) (zisinstance : PySem.W.nsIn K mainGlobals "isinstance" = some none) (zlen : PySem.W.nsIn K mainGlobals "len" = some none) (zlist : PySem.W.nsIn K mainGlobals "list" = some none) (zrange : PySem.W.nsIn K mainGlobals "range" = some none) (zsorted : PySem.W.nsIn K mainGlobals "sorted" = some none) (zstr : PySem.W.nsIn K mainGlobals "str" = some none) (zsum : PySem.W.nsIn K mainGlobals "sum" = some none) (ztuple : PySem.W.nsIn K mainGlobals "tuple" = some none) :
    ∃ fd : FuncData, (∀ (s : Shared) (v : Value), BindsTo s fd ⟨[v], []⟩ [("_law_script", v)]) ∧ ∀ base : Heap, K.In base → base.Ns mainGlobals mg → FnOk l.prog w K mg base CX0 9 fa fd ["_law_script"] (sp_law K) := by
  have e := hfa.symm.trans (PySem.W.mg_of X G a34)
  have e : f34 = fa := by cases e; rfl
  subst e
  have F0 := fun_mk (st := s_row_of) l0 c0 k0
  have b0 := F0.binds (ps := ["rows", "name"]) fun _ _ _ _ _ _ us hl => match us, hl with | [_, _], _ => rfl
  have F1 := fun_mk (st := s_sort_of) l1 c1 k1
  have b1 := F1.binds (ps := ["book", "name"]) fun _ _ _ _ _ _ us hl => match us, hl with | [_, _], _ => rfl
  have F2 := fun_mk (st := s_is_wall) l2 c2 k2
  have b2 := F2.binds (ps := ["book", "name"]) fun _ _ _ _ _ _ us hl => match us, hl with | [_, _], _ => rfl
  have F3 := fun_mk (st := s_host_of) l3 c3 k3
  have b3 := F3.binds (ps := ["book", "name"]) fun _ _ _ _ _ _ us hl => match us, hl with | [_, _], _ => rfl
  have F4 := fun_mk (st := s_frame_of) l4 c4 k4
  have b4 := F4.binds (ps := ["book", "name"]) fun _ _ _ _ _ _ us hl => match us, hl with | [_, _], _ => rfl
  have F5 := fun_mk (st := s_is_text) l5 c5 k5
  have b5 := F5.binds (ps := ["part"]) fun _ _ _ _ _ _ us hl => match us, hl with | [_], _ => rfl
  have F6 := fun_mk (st := s_name_of) l6 c6 k6
  have b6 := F6.binds (ps := ["tree"]) fun _ _ _ _ _ _ us hl => match us, hl with | [_], _ => rfl
  have F7 := fun_mk (st := s_parts_of) l7 c7 k7
  have b7 := F7.binds (ps := ["part"]) fun _ _ _ _ _ _ us hl => match us, hl with | [_], _ => rfl
  have F8 := fun_mk (st := s_part_at) l8 c8 k8
  have b8 := F8.binds (ps := ["tree", "place"]) fun _ _ _ _ _ _ us hl => match us, hl with | [_, _], _ => rfl
  have F9 := fun_mk (st := s_names_above) l9 c9 k9
  have b9 := F9.binds (ps := ["tree", "place"]) fun _ _ _ _ _ _ us hl => match us, hl with | [_, _], _ => rfl
  have F10 := fun_mk (st := s_way_to) l10 c10 k10
  have b10 := F10.binds (ps := ["tree", "place"]) fun _ _ _ _ _ _ us hl => match us, hl with | [_, _], _ => rfl
  have F11 := fun_mk (st := s_straight_above) l11 c11 k11
  have b11 := F11.binds (ps := ["names"]) fun _ _ _ _ _ _ us hl => match us, hl with | [_], _ => rfl
  have F12 := fun_mk (st := s_near_of) l12 c12 k12
  have b12 := F12.binds (ps := ["book", "names"]) fun _ _ _ _ _ _ us hl => match us, hl with | [_, _], _ => rfl
  have F13 := fun_mk (st := s_fault_at) l13 c13 k13
  have b13 := F13.binds (ps := ["book", "tree", "place"]) fun _ _ _ _ _ _ us hl => match us, hl with | [_, _, _], _ => rfl
  have F14 := fun_mk (st := s_follows_text) l14 c14 k14
  have b14 := F14.binds (ps := ["tree", "place"]) fun _ _ _ _ _ _ us hl => match us, hl with | [_, _], _ => rfl
  have F15 := fun_mk (st := s_text_fault) l15 c15 k15
  have b15 := F15.binds (ps := ["book", "names", "text", "beside"]) fun _ _ _ _ _ _ us hl => match us, hl with | [_, _, _, _], _ => rfl
  have F16 := fun_mk (st := s_tree_fault) l16 c16 k16
  have b16 := F16.binds (ps := ["book", "names", "tree"]) fun _ _ _ _ _ _ us hl => match us, hl with | [_, _, _], _ => rfl
  have F17 := fun_mk (st := s_frame_fault) l17 c17 k17
  have b17 := F17.binds (ps := ["book", "names", "name"]) fun _ _ _ _ _ _ us hl => match us, hl with | [_, _, _], _ => rfl
  have F18 := fun_mk (st := s_near_fault) l18 c18 k18
  have b18 := F18.binds (ps := ["book", "names", "name"]) fun _ _ _ _ _ _ us hl => match us, hl with | [_, _, _], _ => rfl
  have F19 := fun_mk (st := s_share_a_name) l19 c19 k19
  have b19 := F19.binds (ps := ["names", "others"]) fun _ _ _ _ _ _ us hl => match us, hl with | [_, _], _ => rfl
  have F20 := fun_mk (st := s__law_numbers) l20 c20 k20
  have b20 := F20.binds (ps := ["_law_script", "_law_most"]) fun _ _ _ _ _ _ us hl => match us, hl with | [_, _], _ => rfl
  have F21 := fun_mk (st := s__law_draw) l21 c21 k21
  have b21 := F21.binds (ps := ["_law_deck", "_law_most"]) fun _ _ _ _ _ _ us hl => match us, hl with | [_, _], _ => rfl
  have F22 := fun_mk (st := s__law_name) l22 c22 k22
  have b22 := F22.binds (ps := ["_law_code", "_law_k"]) fun _ _ _ _ _ _ us hl => match us, hl with | [_, _], _ => rfl
  have F23 := fun_mk (st := s__law_sorts) l23 c23 k23
  have b23 := F23.binds (ps := ["_law_deck", "_law_count"]) fun _ _ _ _ _ _ us hl => match us, hl with | [_, _], _ => rfl
  have F24 := fun_mk (st := s__law_some) l24 c24 k24
  have b24 := F24.binds (ps := ["_law_deck", "_law_names"]) fun _ _ _ _ _ _ us hl => match us, hl with | [_, _], _ => rfl
  have F25 := fun_mk (st := s__law_book) l25 c25 k25
  have b25 := F25.binds (ps := ["_law_deck", "_law_code", "_law_most"]) fun _ _ _ _ _ _ us hl => match us, hl with | [_, _, _], _ => rfl
  have F26 := fun_mk (st := s__law_text) l26 c26 k26
  have b26 := F26.binds (ps := ["_law_deck"]) fun _ _ _ _ _ _ us hl => match us, hl with | [_], _ => rfl
  have F27 := fun_mk (st := s__law_tree) l27 c27 k27
  have b27 := F27.binds (ps := ["_law_deck", "_law_book_here", "_law_code", "_law_deep"]) fun _ _ _ _ _ _ us hl => match us, hl with | [_, _, _, _], _ => rfl
  have F28 := fun_mk (st := s__law_walk) l28 c28 k28
  have b28 := F28.binds (ps := ["_law_tree_here"]) fun _ _ _ _ _ _ us hl => match us, hl with | [_], _ => rfl
  have F29 := fun_mk (st := s__law_row) l29 c29 k29
  have b29 := F29.binds (ps := ["_law_book_here", "_law_name_here"]) fun _ _ _ _ _ _ us hl => match us, hl with | [_, _], _ => rfl
  have F30 := fun_mk (st := s__law_near) l30 c30 k30
  have b30 := F30.binds (ps := ["_law_book_here", "_law_names"]) fun _ _ _ _ _ _ us hl => match us, hl with | [_, _], _ => rfl
  have F31 := fun_mk (st := s__law_fault) l31 c31 k31
  have b31 := F31.binds (ps := ["_law_book_here", "_law_names", "_law_part", "_law_ahead"]) fun _ _ _ _ _ _ us hl => match us, hl with | [_, _, _, _], _ => rfl
  have F32 := fun_mk (st := s__law_faults) l32 c32 k32
  have b32 := F32.binds (ps := ["_law_book_here", "_law_tree_here"]) fun _ _ _ _ _ _ us hl => match us, hl with | [_, _], _ => rfl
  have F33 := fun_mk (st := s__law_no_place) l33 c33 k33
  have b33 := F33.binds (ps := ["_law_book_here", "_law_tree_here", "_law_place"]) fun _ _ _ _ _ _ us hl => match us, hl with | [_, _, _], _ => rfl
  have F34 := fun_mk (st := s_law) l34 c34 k34
  have b34 := F34.binds (ps := ["_law_script"]) fun _ _ _ _ _ _ us hl => match us, hl with | [_], _ => rfl
  let t : Adr := { a_row_of := f0, d_row_of := PySem.W.fnOf "row_of" "row_of" (defArgs s_row_of) (defBody s_row_of) (defScope s_row_of) .none kV0 dc0 pm0 an0 cd0 ct0, a_sort_of := f1, d_sort_of := PySem.W.fnOf "sort_of" "sort_of" (defArgs s_sort_of) (defBody s_sort_of) (defScope s_sort_of) .none kV1 dc1 pm1 an1 cd1 ct1, a_is_wall := f2, d_is_wall := PySem.W.fnOf "is_wall" "is_wall" (defArgs s_is_wall) (defBody s_is_wall) (defScope s_is_wall) .none kV2 dc2 pm2 an2 cd2 ct2, a_host_of := f3, d_host_of := PySem.W.fnOf "host_of" "host_of" (defArgs s_host_of) (defBody s_host_of) (defScope s_host_of) .none kV3 dc3 pm3 an3 cd3 ct3, a_frame_of := f4, d_frame_of := PySem.W.fnOf "frame_of" "frame_of" (defArgs s_frame_of) (defBody s_frame_of) (defScope s_frame_of) .none kV4 dc4 pm4 an4 cd4 ct4, a_is_text := f5, d_is_text := PySem.W.fnOf "is_text" "is_text" (defArgs s_is_text) (defBody s_is_text) (defScope s_is_text) .none kV5 dc5 pm5 an5 cd5 ct5, a_name_of := f6, d_name_of := PySem.W.fnOf "name_of" "name_of" (defArgs s_name_of) (defBody s_name_of) (defScope s_name_of) .none kV6 dc6 pm6 an6 cd6 ct6, a_parts_of := f7, d_parts_of := PySem.W.fnOf "parts_of" "parts_of" (defArgs s_parts_of) (defBody s_parts_of) (defScope s_parts_of) .none kV7 dc7 pm7 an7 cd7 ct7, a_part_at := f8, d_part_at := PySem.W.fnOf "part_at" "part_at" (defArgs s_part_at) (defBody s_part_at) (defScope s_part_at) .none kV8 dc8 pm8 an8 cd8 ct8, a_names_above := f9, d_names_above := PySem.W.fnOf "names_above" "names_above" (defArgs s_names_above) (defBody s_names_above) (defScope s_names_above) .none kV9 dc9 pm9 an9 cd9 ct9, a_way_to := f10, d_way_to := PySem.W.fnOf "way_to" "way_to" (defArgs s_way_to) (defBody s_way_to) (defScope s_way_to) .none kV10 dc10 pm10 an10 cd10 ct10, a_straight_above := f11, d_straight_above := PySem.W.fnOf "straight_above" "straight_above" (defArgs s_straight_above) (defBody s_straight_above) (defScope s_straight_above) .none kV11 dc11 pm11 an11 cd11 ct11, a_near_of := f12, d_near_of := PySem.W.fnOf "near_of" "near_of" (defArgs s_near_of) (defBody s_near_of) (defScope s_near_of) .none kV12 dc12 pm12 an12 cd12 ct12, a_fault_at := f13, d_fault_at := PySem.W.fnOf "fault_at" "fault_at" (defArgs s_fault_at) (defBody s_fault_at) (defScope s_fault_at) .none kV13 dc13 pm13 an13 cd13 ct13, a_follows_text := f14, d_follows_text := PySem.W.fnOf "follows_text" "follows_text" (defArgs s_follows_text) (defBody s_follows_text) (defScope s_follows_text) .none kV14 dc14 pm14 an14 cd14 ct14, a_text_fault := f15, d_text_fault := PySem.W.fnOf "text_fault" "text_fault" (defArgs s_text_fault) (defBody s_text_fault) (defScope s_text_fault) .none kV15 dc15 pm15 an15 cd15 ct15, a_tree_fault := f16, d_tree_fault := PySem.W.fnOf "tree_fault" "tree_fault" (defArgs s_tree_fault) (defBody s_tree_fault) (defScope s_tree_fault) .none kV16 dc16 pm16 an16 cd16 ct16, a_frame_fault := f17, d_frame_fault := PySem.W.fnOf "frame_fault" "frame_fault" (defArgs s_frame_fault) (defBody s_frame_fault) (defScope s_frame_fault) .none kV17 dc17 pm17 an17 cd17 ct17, a_near_fault := f18, d_near_fault := PySem.W.fnOf "near_fault" "near_fault" (defArgs s_near_fault) (defBody s_near_fault) (defScope s_near_fault) .none kV18 dc18 pm18 an18 cd18 ct18, a_share_a_name := f19, d_share_a_name := PySem.W.fnOf "share_a_name" "share_a_name" (defArgs s_share_a_name) (defBody s_share_a_name) (defScope s_share_a_name) .none kV19 dc19 pm19 an19 cd19 ct19, a__law_numbers := f20, d__law_numbers := PySem.W.fnOf "_law_numbers" "_law_numbers" (defArgs s__law_numbers) (defBody s__law_numbers) (defScope s__law_numbers) .none kV20 dc20 pm20 an20 cd20 ct20, a__law_draw := f21, d__law_draw := PySem.W.fnOf "_law_draw" "_law_draw" (defArgs s__law_draw) (defBody s__law_draw) (defScope s__law_draw) .none kV21 dc21 pm21 an21 cd21 ct21, a__law_name := f22, d__law_name := PySem.W.fnOf "_law_name" "_law_name" (defArgs s__law_name) (defBody s__law_name) (defScope s__law_name) .none kV22 dc22 pm22 an22 cd22 ct22, a__law_sorts := f23, d__law_sorts := PySem.W.fnOf "_law_sorts" "_law_sorts" (defArgs s__law_sorts) (defBody s__law_sorts) (defScope s__law_sorts) .none kV23 dc23 pm23 an23 cd23 ct23, a__law_some := f24, d__law_some := PySem.W.fnOf "_law_some" "_law_some" (defArgs s__law_some) (defBody s__law_some) (defScope s__law_some) .none kV24 dc24 pm24 an24 cd24 ct24, a__law_book := f25, d__law_book := PySem.W.fnOf "_law_book" "_law_book" (defArgs s__law_book) (defBody s__law_book) (defScope s__law_book) .none kV25 dc25 pm25 an25 cd25 ct25, a__law_text := f26, d__law_text := PySem.W.fnOf "_law_text" "_law_text" (defArgs s__law_text) (defBody s__law_text) (defScope s__law_text) .none kV26 dc26 pm26 an26 cd26 ct26, a__law_tree := f27, d__law_tree := PySem.W.fnOf "_law_tree" "_law_tree" (defArgs s__law_tree) (defBody s__law_tree) (defScope s__law_tree) .none kV27 dc27 pm27 an27 cd27 ct27, a__law_walk := f28, d__law_walk := PySem.W.fnOf "_law_walk" "_law_walk" (defArgs s__law_walk) (defBody s__law_walk) (defScope s__law_walk) .none kV28 dc28 pm28 an28 cd28 ct28, a__law_row := f29, d__law_row := PySem.W.fnOf "_law_row" "_law_row" (defArgs s__law_row) (defBody s__law_row) (defScope s__law_row) .none kV29 dc29 pm29 an29 cd29 ct29, a__law_near := f30, d__law_near := PySem.W.fnOf "_law_near" "_law_near" (defArgs s__law_near) (defBody s__law_near) (defScope s__law_near) .none kV30 dc30 pm30 an30 cd30 ct30, a__law_fault := f31, d__law_fault := PySem.W.fnOf "_law_fault" "_law_fault" (defArgs s__law_fault) (defBody s__law_fault) (defScope s__law_fault) .none kV31 dc31 pm31 an31 cd31 ct31, a__law_faults := f32, d__law_faults := PySem.W.fnOf "_law_faults" "_law_faults" (defArgs s__law_faults) (defBody s__law_faults) (defScope s__law_faults) .none kV32 dc32 pm32 an32 cd32 ct32, a__law_no_place := f33, d__law_no_place := PySem.W.fnOf "_law_no_place" "_law_no_place" (defArgs s__law_no_place) (defBody s__law_no_place) (defScope s__law_no_place) .none kV33 dc33 pm33 an33 cd33 ct33, a_law := f34, d_law := PySem.W.fnOf "law" "law" (defArgs s_law) (defBody s_law) (defScope s_law) .none kV34 dc34 pm34 an34 cd34 ct34, v_NAME := .int 0 k_NAME, v_SORT := .int 1 k_SORT, v_HOST := .int 2 k_HOST, v_SHUTS := .int 3 k_SHUTS, v_BARS := .int 4 k_BARS, v_ROOT_NAME := .str ("" : Str) k_ROOT_NAME, v_MOST_ABOVE := .int 19 k_MOST_ABOVE, c_WALL_SORTS := c_WALL_SORTS, k_NoPlace := k_NoPlace }
  have T : Txt K mg t := ⟨F0, b0, PySem.W.mg_of X G a0, F1, b1, PySem.W.mg_of X G a1, F2, b2, PySem.W.mg_of X G a2, F3, b3, PySem.W.mg_of X G a3, F4, b4, PySem.W.mg_of X G a4, F5, b5, PySem.W.mg_of X G a5, F6, b6, PySem.W.mg_of X G a6, F7, b7, PySem.W.mg_of X G a7, F8, b8, PySem.W.mg_of X G a8, F9, b9, PySem.W.mg_of X G a9, F10, b10, PySem.W.mg_of X G a10, F11, b11, PySem.W.mg_of X G a11, F12, b12, PySem.W.mg_of X G a12, F13, b13, PySem.W.mg_of X G a13, F14, b14, PySem.W.mg_of X G a14, F15, b15, PySem.W.mg_of X G a15, F16, b16, PySem.W.mg_of X G a16, F17, b17, PySem.W.mg_of X G a17, F18, b18, PySem.W.mg_of X G a18, F19, b19, PySem.W.mg_of X G a19, F20, b20, PySem.W.mg_of X G a20, F21, b21, PySem.W.mg_of X G a21, F22, b22, PySem.W.mg_of X G a22, F23, b23, PySem.W.mg_of X G a23, F24, b24, PySem.W.mg_of X G a24, F25, b25, PySem.W.mg_of X G a25, F26, b26, PySem.W.mg_of X G a26, F27, b27, PySem.W.mg_of X G a27, F28, b28, PySem.W.mg_of X G a28, F29, b29, PySem.W.mg_of X G a29, F30, b30, PySem.W.mg_of X G a30, F31, b31, PySem.W.mg_of X G a31, F32, b32, PySem.W.mg_of X G a32, F33, b33, PySem.W.mg_of X G a33, F34, b34, PySem.W.mg_of X G a34, PySem.W.mg_of X G uWALL_SORTS, fun _ => .inr ⟨_, _, _, wWALL_SORTS, rfl, rfl, by rw [sizeLine_eq]; show 2 ≤ _; decide, (.cons ⟨_, rfl⟩ (.cons ⟨_, rfl⟩ .nil))⟩, ⟨PySem.W.mg_of X G uNAME, ⟨_, rfl⟩⟩, ⟨PySem.W.mg_of X G uSORT, ⟨_, rfl⟩⟩, ⟨PySem.W.mg_of X G uHOST, ⟨_, rfl⟩⟩, ⟨PySem.W.mg_of X G uSHUTS, ⟨_, rfl⟩⟩, ⟨PySem.W.mg_of X G uBARS, ⟨_, rfl⟩⟩, ⟨PySem.W.mg_of X G uROOT_NAME, ⟨_, rfl⟩⟩, ⟨PySem.W.mg_of X G uMOST_ABOVE, ⟨_, rfl⟩⟩, PySem.W.mg_none_of X G zany, PySem.W.mg_none_of X G zenumerate, PySem.W.mg_none_of X G zint, PySem.W.mg_none_of X G zisinstance, PySem.W.mg_none_of X G zlen, PySem.W.mg_none_of X G zlist, PySem.W.mg_none_of X G zrange, PySem.W.mg_none_of X G zsorted, PySem.W.mg_none_of X G zstr, PySem.W.mg_none_of X G zsum, PySem.W.mg_none_of X G ztuple, ⟨PySem.W.mg_of X G eNoPlace, xNoPlace⟩, yNoPlace_NoPlace⟩
  exact ⟨_, fun s v => .of_eq rfl, fun base _ _ => ok_law T⟩
theorem walk {l : PySem.W.OpenLaw} {q : Program} {loose : List Str} {XP : (Str → Option Value) → Heap → Prop} {as : List Addr} {z t : Nat} {d : DefRec} {K : Params → PySem.W.Frag} (hn : l.most = some 63) (hdf : d.params.defaults = [])
    (hk : ∀ P, as = (K P).map (·.1)) (h0 : 0 < t)
    (F : ∀ (w : World) (mg : Str → Option Value) (fa : Addr) (h : Heap), (K w.params).In h → h.Ns mainGlobals mg → mg d.name = some (.ref fa) →
      ∃ fd : FuncData, (∀ (s : Shared) (u : Value), BindsTo s fd ⟨[u], []⟩ [("_law_script", u)]) ∧ ∀ base : Heap, (K w.params).In base → base.Ns mainGlobals mg → FnOk l.prog w (K w.params) mg base CX0 9 fa fd ["_law_script"] (sp_law (K w.params))) :
    PySem.W.WalkX q loose XP (PySem.W.X.obsZ as) (PySem.W.X.valZ K z t) l.row.toRowW d [] (fun f vs => PySem.call f vs) :=
  L2.walk_of (n := 63) (k := 9) (x := "_law_script") (CX := fun _ => CX0) (sp := fun w => sp_law (K w.params)) hn (by decide) hdf ⟨rfl, by decide, by decide⟩ hk h0 F (fun _ _ a ns hl _ hS => ⟨a, ns, rfl, hS, hl, fun _ => rfl⟩) fun _ _ _ _ _ z => z
end My
open PySem PySem.W PyProof.Rows
set_option maxRecDepth 100000 in
set_option maxHeartbeats 0 in
theorem PySem.Challenge.cw_tagmend_k23_faults_at_places_holds : PySem.Challenge.rw_tagmend_k23_faults_at_places.Holds := by
  w_on; o_law; z_head; (case hw => w_witness2)
  k_fill
  refine My.walk (l := PySem.Challenge.rw_tagmend_k23_faults_at_places) rfl rfl (fun _ => rfl) (by decide) ?F
  case F =>
    intro w mg fa h KX G hmg
    refine' My.all_mk KX G hmg ?a0 ?l0 ?c0 ?k0 ?a1 ?l1 ?c1 ?k1 ?a2 ?l2 ?c2 ?k2 ?a3 ?l3 ?c3 ?k3 ?a4 ?l4 ?c4 ?k4 ?a5 ?l5 ?c5 ?k5 ?a6 ?l6 ?c6 ?k6 ?a7 ?l7 ?c7 ?k7 ?a8 ?l8 ?c8 ?k8 ?a9 ?l9 ?c9 ?k9 ?a10 ?l10 ?c10 ?k10 ?a11 ?l11 ?c11 ?k11 ?a12 ?l12 ?c12 ?k12 ?a13 ?l13 ?c13 ?k13 ?a14 ?l14 ?c14 ?k14 ?a15 ?l15 ?c15 ?k15 ?a16 ?l16 ?c16 ?k16 ?a17 ?l17 ?c17 ?k17 ?a18 ?l18 ?c18 ?k18 ?a19 ?l19 ?c19 ?k19 ?a20 ?l20 ?c20 ?k20 ?a21 ?l21 ?c21 ?k21 ?a22 ?l22 ?c22 ?k22 ?a23 ?l23 ?c23 ?k23 ?a24 ?l24 ?c24 ?k24 ?a25 ?l25 ?c25 ?k25 ?a26 ?l26 ?c26 ?k26 ?a27 ?l27 ?c27 ?k27 ?a28 ?l28 ?c28 ?k28 ?a29 ?l29 ?c29 ?k29 ?a30 ?l30 ?c30 ?k30 ?a31 ?l31 ?c31 ?k31 ?a32 ?l32 ?c32 ?k32 ?a33 ?l33 ?c33 ?k33 ?a34 ?l34 ?c34 ?k34 ?uWALL_SORTS ?wWALL_SORTS ?uNAME ?uSORT ?uHOST ?uSHUTS ?uBARS ?uROOT_NAME ?uMOST_ABOVE ?eNoPlace ?xNoPlace ?yNoPlace_NoPlace ?zany ?zenumerate ?zint ?zisinstance ?zlen ?zlist ?zrange ?zsorted ?zstr ?zsum ?ztuple
    (case a0 => k_is); (case l0 => k_is); (case c0 => k_is); (case k0 => k_is)
    (case a1 => k_is); (case l1 => k_is); (case c1 => k_is); (case k1 => k_is)
    (case a2 => k_is); (case l2 => k_is); (case c2 => k_is); (case k2 => k_is)
    (case a3 => k_is); (case l3 => k_is); (case c3 => k_is); (case k3 => k_is)
    (case a4 => k_is); (case l4 => k_is); (case c4 => k_is); (case k4 => k_is)
    (case a5 => k_is); (case l5 => k_is); (case c5 => k_is); (case k5 => k_is)
    (case a6 => k_is); (case l6 => k_is); (case c6 => k_is); (case k6 => k_is)
    (case a7 => k_is); (case l7 => k_is); (case c7 => k_is); (case k7 => k_is)
    (case a8 => k_is); (case l8 => k_is); (case c8 => k_is); (case k8 => k_is)
    (case a9 => k_is); (case l9 => k_is); (case c9 => k_is); (case k9 => k_is)
    (case a10 => k_is); (case l10 => k_is); (case c10 => k_is); (case k10 => k_is)
    (case a11 => k_is); (case l11 => k_is); (case c11 => k_is); (case k11 => k_is)
    (case a12 => k_is); (case l12 => k_is); (case c12 => k_is); (case k12 => k_is)
    (case a13 => k_is); (case l13 => k_is); (case c13 => k_is); (case k13 => k_is)
    (case a14 => k_is); (case l14 => k_is); (case c14 => k_is); (case k14 => k_is)
    (case a15 => k_is); (case l15 => k_is); (case c15 => k_is); (case k15 => k_is)
    (case a16 => k_is); (case l16 => k_is); (case c16 => k_is); (case k16 => k_is)
    (case a17 => k_is); (case l17 => k_is); (case c17 => k_is); (case k17 => k_is)
    (case a18 => k_is); (case l18 => k_is); (case c18 => k_is); (case k18 => k_is)
    (case a19 => k_is); (case l19 => k_is); (case c19 => k_is); (case k19 => k_is)
    (case a20 => k_is); (case l20 => k_is); (case c20 => k_is); (case k20 => k_is)
    (case a21 => k_is); (case l21 => k_is); (case c21 => k_is); (case k21 => k_is)
    (case a22 => k_is); (case l22 => k_is); (case c22 => k_is); (case k22 => k_is)
    (case a23 => k_is); (case l23 => k_is); (case c23 => k_is); (case k23 => k_is)
    (case a24 => k_is); (case l24 => k_is); (case c24 => k_is); (case k24 => k_is)
    (case a25 => k_is); (case l25 => k_is); (case c25 => k_is); (case k25 => k_is)
    (case a26 => k_is); (case l26 => k_is); (case c26 => k_is); (case k26 => k_is)
    (case a27 => k_is); (case l27 => k_is); (case c27 => k_is); (case k27 => k_is)
    (case a28 => k_is); (case l28 => k_is); (case c28 => k_is); (case k28 => k_is)
    (case a29 => k_is); (case l29 => k_is); (case c29 => k_is); (case k29 => k_is)
    (case a30 => k_is); (case l30 => k_is); (case c30 => k_is); (case k30 => k_is)
    (case a31 => k_is); (case l31 => k_is); (case c31 => k_is); (case k31 => k_is)
    (case a32 => k_is); (case l32 => k_is); (case c32 => k_is); (case k32 => k_is)
    (case a33 => k_is); (case l33 => k_is); (case c33 => k_is); (case k33 => k_is)
    (case a34 => k_is); (case l34 => k_is); (case c34 => k_is); (case k34 => k_is)
    (case uWALL_SORTS => k_is); (case wWALL_SORTS => k_is); (case uNAME => k_is); (case uSORT => k_is)
    (case uHOST => k_is); (case uSHUTS => k_is); (case uBARS => k_is); (case uROOT_NAME => k_is)
    (case uMOST_ABOVE => k_is); (case eNoPlace => k_is); (case xNoPlace => k_exc); (case yNoPlace_NoPlace => kts_exm)
    (case zany => k_is); (case zenumerate => k_is); (case zint => k_is); (case zisinstance => k_is)
    (case zlen => k_is); (case zlist => k_is); (case zrange => k_is); (case zsorted => k_is)
    (case zstr => k_is); (case zsum => k_is); (case ztuple => k_is)
