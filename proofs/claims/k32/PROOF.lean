import PyProof.Rows.All
import Wide.All
import OpenK.AllK
import Wide.FinOn
import Lean
import PyProof.EqAt
import PyProof.EqKinds
import PyProof.TupleCall
import PyProof.NeData
import PyProof.Rows.StrJoin2
import PyProof.Rows.SortStr
import PyProof.Rows.SortWalk
import KE.KRevIter
import PyProof.Rows.RuleN_isinstance
import PyProof.StrReplace2
import PyProof.StrWalks
import PyProof.Draws
import PyProof.EnumMake
import PyProof.Rows.StrNews2
import PyProof.StrLawsTight
import PyProof.StrLawsReplace
import PyProof.ConsumeWalk
import PyProof.StrLawsFrom
import PySem.Challenge.RW_tagmend_k32_what_is_opened_may_stand
set_option Elab.async false
set_option linter.all false
set_option maxRecDepth 100000
namespace L2
open PySem PySem.Spec PyProof.Rows

/-- a key: an int or a str -/
abbrev Key := Sum Int Str
def keyIs : Key → Value → Bool
  | .inl k, v => Value.isInt k v
  | .inr x, v => Value.isStrOf x v
def keyH (w : World) : Key → Int
  | .inl k => hashInt k
  | .inr x => hashStr w x
theorem keyIs_shape : ∀ {k : Key} {v : Value}, keyIs k v = true → (∃ i t, k = Sum.inl i ∧ v = Value.int i t) ∨ (∃ x t, k = Sum.inr x ∧ v = Value.str x t)
  | .inl i, v, h => by
    obtain ⟨t, e⟩ := Value.isInt_shape (k := i) (v := v) h
    exact .inl ⟨i, t, rfl, e⟩
  | .inr x, v, h => by
    obtain ⟨t, e⟩ := Value.isStrOf_shape (x := x) (v := v) h
    exact .inr ⟨x, t, rfl, e⟩
theorem keyIs_int (i : Int) (t : Tok) : keyIs (.inl i) (.int i t) = true := by simp [keyIs, Value.isInt]
theorem keyIs_str (x : Str) (t : Tok) : keyIs (.inr x) (.str x t) = true := by simp [keyIs, Value.isStrOf]
theorem key_ll (a b : Int) : decide ((Sum.inl a : Key) = Sum.inl b) = (a == b) := by
  by_cases e : a = b
  · subst e; simp
  · have h : ¬ (Sum.inl a : Key) = Sum.inl b := fun q => e (Sum.inl.inj q)
    rw [decide_eq_false h]
    exact (beq_eq_false_iff_ne.mpr e).symm
theorem key_rr (a b : Str) : decide ((Sum.inr a : Key) = Sum.inr b) = decide (a = b) := by
  by_cases e : a = b
  · subst e; simp
  · have h : ¬ (Sum.inr a : Key) = Sum.inr b := fun q => e (Sum.inr.inj q)
    rw [decide_eq_false h, decide_eq_false e]
theorem key_lr (a : Int) (b : Str) : decide ((Sum.inl a : Key) = Sum.inr b) = false := decide_eq_false (fun q => nomatch q)
theorem key_rl (a : Str) (b : Int) : decide ((Sum.inr a : Key) = Sum.inl b) = false := decide_eq_false (fun q => nomatch q)

def mixKind (prog : Program) (w : World) : PySem.KeyKind prog w Key where
  is := keyIs
  hash := keyH w
  inj := fun v a b ha hb => by
    rcases keyIs_shape ha with ⟨i, t, rfl, rfl⟩ | ⟨x, t, rfl, rfl⟩
    · rcases keyIs_shape hb with ⟨j, u, rfl, e⟩ | ⟨y, u, rfl, e⟩
      · injection e with e1 _; rw [e1]
      · exact nomatch e
    · rcases keyIs_shape hb with ⟨j, u, rfl, e⟩ | ⟨y, u, rfl, e⟩
      · exact nomatch e
      · injection e with e1 _; rw [e1]
  byValue := fun k v h => by
    rcases keyIs_shape h with ⟨i, t, rfl, rfl⟩ | ⟨x, t, rfl, rfl⟩ <;> rfl
  pyHash := fun hv h => by
    rcases keyIs_shape hv with ⟨i, t, rfl, rfl⟩ | ⟨x, t, rfl, rfl⟩
    · exact wpAny_pyHash_int h
    · exact wpAny_pyHash_str h
  eqBool := fun hu hv h => by
    rcases keyIs_shape hu with ⟨i, t, rfl, rfl⟩ | ⟨x, t, rfl, rfl⟩
    · rcases keyIs_shape hv with ⟨j, u, rfl, rfl⟩ | ⟨y, u, rfl, rfl⟩
      · rw [key_ll] at h; exact wpAny_eqBool_int h
      · rw [key_lr] at h; exact SeqAt.EqAt.int_str i t y u _ _ _ _ h
    · rcases keyIs_shape hv with ⟨j, u, rfl, rfl⟩ | ⟨y, u, rfl, rfl⟩
      · rw [key_rl] at h; exact SeqAt.EqAt.str_int x t j u _ _ _ _ h
      · rw [key_rr] at h; exact wpAny_eqBool_str h
  «strs» := fun k x t v h => by
    rcases keyIs_shape h with ⟨i, u, rfl, e⟩ | ⟨y, u, rfl, e⟩
    · exact nomatch e
    · injection e with e1 _
      subst e1
      cases v <;> rfl

theorem mixKind_int (prog : Program) (w : World) (i : Int) (t : Tok) : (mixKind prog w).is (.inl i) (.int i t) = true := keyIs_int i t
theorem mixKind_str (prog : Program) (w : World) (x : Str) (t : Tok) : (mixKind prog w).is (.inr x) (.str x t) = true := keyIs_str x t
end L2

namespace L2
open PySem PySem.Spec PyProof.Rows

/-- a value, without the heap -/
inductive V where
  | non | bl (b : Bool) | int (i : Int) | str (x : Str) | byt (b : Array UInt8) | flt (b : UInt64) | ref (a : Addr) | ty (n : String)
  deriving DecidableEq

def RelV : V → Value → Prop
  | .non, u => u = Value.none
  | .bl b, u => u = Value.bool b
  | .int i, u => ∃ t, u = Value.int i t
  | .str x, u => ∃ t, u = Value.str x t
  | .byt b, u => ∃ t, u = Value.bytes b t
  | .flt b, u => ∃ t, u = Value.float b t
  | .ref a, u => u = Value.ref a
  | .ty n, u => u = Value.type n

abbrev Vals : List V → List Value → Prop := Paired RelV
theorem Vals.length {xs : List V} {us : List Value} (r : Vals xs us) : xs.length = us.length := Paired.length r
theorem Vals.get : ∀ {xs : List V} {us : List Value} {i : Nat} {x : V}, Vals xs us → xs[i]? = some x → ∃ u, us[i]? = some u ∧ RelV x u
  | _, _, _, _, .nil, e => by simp at e
  | _, _, 0, _, .cons r _, e => by simp at e; subst e; exact ⟨_, rfl, r⟩
  | _, _, i + 1, x, .cons _ t, e => by
    obtain ⟨u, h1, h2⟩ := Vals.get (i := i) (x := x) t (by simpa using e)
    exact ⟨u, by simpa using h1, h2⟩
theorem Vals.set {x : V} {u : Value} (r : RelV x u) : ∀ {xs : List V} {us : List Value} (i : Nat), Vals xs us → Vals (xs.set i x) (us.set i u)
  | _, _, _, .nil => .nil
  | _, _, 0, .cons _ t => .cons r t
  | _, _, i + 1, .cons q t => .cons q (Vals.set r i t)
theorem Vals.append : ∀ {xs ys : List V} {us ws : List Value}, Vals xs us → Vals ys ws → Vals (xs ++ ys) (us ++ ws)
  | _, _, _, _, .nil, s => s
  | _, _, _, _, .cons r t, s => .cons r (Vals.append t s)
theorem Vals.take : ∀ {xs : List V} {us : List Value} (n : Nat), Vals xs us → Vals (xs.take n) (us.take n)
  | _, _, 0, _ => .nil
  | _, _, _ + 1, .nil => .nil
  | _, _, n + 1, .cons r t => .cons r (Vals.take n t)
theorem Vals.drop : ∀ {xs : List V} {us : List Value} (n : Nat), Vals xs us → Vals (xs.drop n) (us.drop n)
  | _, _, 0, r => r
  | _, _, _ + 1, .nil => .nil
  | _, _, n + 1, .cons _ t => Vals.drop n t
def RelO : Option V → Option Value → Prop
  | some v, some u => RelV v u
  | none, none => True
  | _, _ => False
def KV {κ : Type} : List (κ × V) → List (κ × Value) → Prop := Paired fun (p : κ × V) (q : κ × Value) => p.1 = q.1 ∧ RelV p.2 q.2

/-- a key of a dict (00_mix): an int or a text -/
def kV : Key → V
  | .inl i => .int i
  | .inr x => .str x

/-- what stands at a tracked address -/
inductive HO where
  /-- a list -/
  | lst (xs : List V)
  /-- a tuple (never changes) -/
  | tup (xs : List V)
  /-- a dict whose keys are ints and texts; one whose keys are tuples of ints and texts (the empty one is both) -/
  | dK (kvs : List (Key × V)) | dT (kvs : List (List Key × V))
  /-- a set of ints: its members, its size -/
  | set (S : Int → Bool) (n : Nat)
  /-- an instance of the class at C, its dict at dx, its attributes -/
  | ins (C dx : Addr) (fs : List (Str × V))
  /-- the dict of the instance at x -/
  | own (x : Addr)
  /-- the dict of an exception -/
  | xd (fs : List (Str × V))
  /-- a bound method, f of x -/
  | met (f x : Addr)
  /-- a range object lo, lo + 1, .. below hi -/
  | rng (lo hi : Int)
  /-- a thing that is known to the object (the script; a dict while a loop walks it): read, never written while it is so -/
  | frz (o : Obj) (u : HO)
  /-- a code object's table -/
  | tbl (ps : Array Value)
  /-- any other thing, by what is true of its one object (a def of one's own: SetO a S n := HO.ext fun h => ..) -/
  | ext (φ : Heap → Prop)

abbrev Hp := Addr → Option HO
def upd (H : Hp) (a : Addr) (o : HO) : Hp := fun b => if b = a then some o else H b
theorem upd_same {H : Hp} {a : Addr} {o : HO} : upd H a o a = some o := by unfold upd; rw [if_pos rfl]
theorem upd_ne {H : Hp} {a b : Addr} {o : HO} (h : b ≠ a) : upd H a o b = H b := by unfold upd; rw [if_neg h]
/-- two objects of different content stand apart -/
theorem ne_of {H : Hp} {a b : Addr} {o u : HO} (h : H a = some o) (h' : H b = some u) (d : o ≠ u) : a ≠ b := by
  intro e; subst e; rw [h] at h'; exact d (Option.some.inj h')
theorem ne_of_none {H : Hp} {a b : Addr} {o : HO} (h : H a = some o) (h' : H b = none) : a ≠ b := by
  intro e; subst e; rw [h] at h'; cases h'

section
variable (P : Program) (w : World)
def ObjOk (H : Hp) (h : Heap) (a : Addr) : HO → Prop
  | .lst xs => xs.length ≤ sizeLine ∧ ∃ (its : List Value) (n : Nat), Vals xs its ∧ h.get? a = some { cls := .type "list", data := .seq its.toArray n }
  | .tup xs => xs.length ≤ sizeLine ∧ ∃ its : List Value, Vals xs its ∧ IsTup h a its.toArray
  | .dK kvs => kvs.length ≤ sizeLine ∧ (a == sysModules) = false ∧ ∃ vs, KV kvs vs ∧ h.DictOf (mixKind P w) a vs
  | .dT kvs => kvs.length ≤ sizeLine ∧ (a == sysModules) = false ∧ ∃ xs : List (List Key × Addr × Value),
      Paired (fun (p : List Key × V) (q : List Key × Addr × Value) => p.1 = q.1 ∧ H q.2.1 = some (.tup (p.1.map kV)) ∧ RelV p.2 q.2.2) kvs xs ∧
      ∃ o es ep, h.get? a = some o ∧ o.ExactDict ∧ o.data = .dict es ep ∧ es.toList = xs.map (entryOfKey (tupleKind (mixKind P w))) ∧ (xs.map (·.1)).Nodup
  | .set S n => h.SetOf (intKind P w) a S n
  | .ins C dx fs => H dx = some (.own a) ∧ fs.length ≤ 1000 ∧ dx ≠ a ∧ h.get? a = some (PySem.W.instObj C dx) ∧
      ∃ mA, h.Ns1 dx mA ∧ (∀ f, RelO (fs.lookup f) (mA f)) ∧ PySem.Within mA (fs.map (·.1))
  | .own _ => ∃ o, h.get? a = some o
  | .xd fs => ∃ mA, h.Ns1 a mA ∧ ∀ f, RelO (fs.lookup f) (mA f)
  | .rng lo hi => ∃ t u v, h.get? a = some { cls := .type "range", data := .fields #[.int lo t, .int hi u, .int 1 v] }
  | .frz o u => h.get? a = some o ∧ ObjOk H h a u
  | .tbl ps => h.get? a = some { cls := .none, data := .fields ps }
  | .met f x => h.get? a = some (PySem.W.methodObj (.ref f) (.ref x))
  | .ext φ => φ h ∧ (∃ o, h.get? a = some o) ∧ ∀ h1 h2 : Heap, φ h1 → (∀ o, h1.get? a = some o → h2.get? a = some o) → φ h2
/-- the abstract heap is held -/
def HOk (H : Hp) (h : Heap) : Prop := ∀ a o, H a = some o → ObjOk P w H h a o
end

section
variable {P : Program} {w : World} {H H' : Hp} {h h' : Heap} {a : Addr} {o : HO}
theorem ObjOk.lt (x : ObjOk P w H h a o) : a < h.objs.size := by
  cases o with
  | lst xs => obtain ⟨_, _, _, _, e⟩ := x; exact Heap.lt_size e
  | tup xs => obtain ⟨_, _, _, p⟩ := x; exact p.lt
  | dK kvs => obtain ⟨_, _, _, _, o, _, _, e, _⟩ := x; exact Heap.lt_size e
  | dT kvs => obtain ⟨_, _, _, _, o, _, _, e, _⟩ := x; exact Heap.lt_size e
  | set S n => obtain ⟨o, _, _, _, e, _⟩ := x; exact Heap.lt_size e
  | ins C dx fs => obtain ⟨_, _, _, e, _⟩ := x; exact Heap.lt_size e
  | own y => obtain ⟨_, e⟩ := x; exact Heap.lt_size e
  | xd fs => obtain ⟨_, ⟨_, _, _, e, _⟩, _⟩ := x; exact Heap.lt_size e
  | rng lo hi => obtain ⟨_, _, _, e⟩ := x; exact Heap.lt_size e
  | frz ob u => obtain ⟨e, _⟩ := x; exact Heap.lt_size e
  | tbl ps => exact Heap.lt_size (show h.get? a = some _ from x)
  | met f y => exact Heap.lt_size (show h.get? a = some _ from x)
  | ext φ => obtain ⟨_, ⟨_, e⟩, _⟩ := x; exact Heap.lt_size e
theorem Paired.mapP {α β : Type} {F G : α → β → Prop} : ∀ {l₁ : List α} {l₂ : List β}, Paired F l₁ l₂ → (∀ a b, F a b → G a b) → Paired G l₁ l₂
  | _, _, .nil, _ => .nil
  | _, _, .cons r t, f => .cons (f _ _ r) (Paired.mapP t f)
/-- what an object's description leans on: its own object, its own dict, the tuples -/
theorem ObjOk.stay (x : ObjOk P w H h a o) (k : ∀ b u, (b = a ∨ H b = some (.own a)) → h.get? b = some u → h'.get? b = some u)
    (ho : ∀ b, H b = some (.own a) → H' b = some (.own a)) (ht : ∀ b xs, H b = some (.tup xs) → H' b = some (.tup xs)) : ObjOk P w H' h' a o := by
  induction o with
  | lst xs => obtain ⟨z, its, n, r, e⟩ := x; exact ⟨z, its, n, r, k _ _ (.inl rfl) e⟩
  | tup xs => obtain ⟨z, its, r, ob, e, c⟩ := x; exact ⟨z, its, r, ob, k _ _ (.inl rfl) e, c⟩
  | dK kvs => obtain ⟨z, y, vs, r, ob, es, ep, e, c⟩ := x; exact ⟨z, y, vs, r, ob, es, ep, k _ _ (.inl rfl) e, c⟩
  | dT kvs =>
    obtain ⟨z, y, xs, r, ob, es, ep, e, c⟩ := x
    exact ⟨z, y, xs, Paired.mapP r fun p q z => ⟨z.1, ht _ _ z.2.1, z.2.2⟩, ob, es, ep, k _ _ (.inl rfl) e, c⟩
  | set S n => obtain ⟨ob, es, ep, t, e, c⟩ := x; exact ⟨ob, es, ep, t, k _ _ (.inl rfl) e, c⟩
  | ins C dx fs =>
    obtain ⟨d, z, ne, e, mA, ⟨od, es, ep, e2, c⟩, r⟩ := x
    exact ⟨ho _ d, z, ne, k _ _ (.inl rfl) e, mA, ⟨od, es, ep, k _ _ (.inr d) e2, c⟩, r⟩
  | own y => obtain ⟨ob, e⟩ := x; exact ⟨ob, k _ _ (.inl rfl) e⟩
  | xd fs => obtain ⟨mA, ⟨od, es, ep, e, c⟩, r⟩ := x; exact ⟨mA, ⟨od, es, ep, k _ _ (.inl rfl) e, c⟩, r⟩
  | rng lo hi => obtain ⟨t, u, v, e⟩ := x; exact ⟨t, u, v, k _ _ (.inl rfl) e⟩
  | frz ob u ih => obtain ⟨e, q⟩ := x; exact ⟨k _ _ (.inl rfl) e, ih q⟩
  | tbl ps =>
    have e : h.get? a = some { cls := .none, data := .fields ps } := x
    show h'.get? a = some { cls := .none, data := .fields ps }
    exact k a _ (.inl rfl) e
  | met f y =>
    have e : h.get? a = some (PySem.W.methodObj (.ref f) (.ref y)) := x
    show h'.get? a = some (PySem.W.methodObj (.ref f) (.ref y))
    exact k a _ (.inl rfl) e
  | ext φ => obtain ⟨p, ⟨o, e⟩, st⟩ := x; exact ⟨st _ _ p fun o q => k _ _ (.inl rfl) q, ⟨o, k _ _ (.inl rfl) e⟩, st⟩
theorem HOk.lt (x : HOk P w H h) (e : H a = some o) : a < h.objs.size := (x a o e).lt
theorem HOk.fresh (x : HOk P w H h) (e : h.objs.size ≤ a) : H a = none := by
  cases q : H a with
  | none => rfl
  | some u => exact absurd (Nat.lt_of_lt_of_le (x.lt q) e) (Nat.lt_irrefl _)
/-- every object of the heap is kept -/
theorem HOk.kept (x : HOk P w H h) (k : ∀ b u, h.get? b = some u → h'.get? b = some u) : HOk P w H h' := fun a o e =>
  (x a o e).stay (fun b u _ q => k b u q) (fun _ q => q) fun _ _ q => q
/-- a new object is laid and tracked -/
theorem HOk.laid (x : HOk P w H h) (k : ∀ b u, h.get? b = some u → h'.get? b = some u) (hp : h.objs.size ≤ a) (new : ObjOk P w (upd H a o) h' a o) : HOk P w (upd H a o) h' := fun b u e => by
  have hn := x.fresh hp
  by_cases hb : b = a
  · subst hb; rw [upd_same] at e; cases e; exact new
  · rw [upd_ne hb] at e
    exact (x b u e).stay (fun c v _ q => k c v q) (fun c q => by rw [upd_ne (ne_of_none q hn)]; exact q) fun c xs q => by rw [upd_ne (ne_of_none q hn)]; exact q
end

/-- what may be read as u: it is u, or a known u -/
def Rd (H : Hp) (a : Addr) (u : HO) : Prop := H a = some u ∨ ∃ o, H a = some (.frz o u)
theorem Rd.of {H : Hp} {a : Addr} {u : HO} (h : H a = some u) : Rd H a u := .inl h
theorem Rd.ok {P : Program} {w : World} {H : Hp} {h : Heap} {a : Addr} {u : HO} (r : Rd H a u) (x : HOk P w H h) : ObjOk P w H h a u := by
  rcases r with r | ⟨o, r⟩
  · exact x a u r
  · obtain ⟨_, q⟩ := x a _ r
    exact q
/-- what may be written -/
def Mut : Option HO → Prop
  | some (.lst _) => True
  | some (.dK _) => True
  | some (.dT _) => True
  | some (.set _ _) => True
  | some (.ins _ _ _) => True
  | some (.ext _) => True
  | _ => False
section
variable {P : Program} {w : World} {H : Hp} {h h' : Heap} {x e : Addr} {o' : HO}
/-- the object at e is changed: x itself, or the dict of the instance x -/
theorem HOk.write (ok : HOk P w H h) (mu : Mut (H x)) (he : e = x ∨ H e = some (.own x)) (k : ∀ b u, b ≠ e → h.get? b = some u → h'.get? b = some u) (heo : ∃ u, h'.get? e = some u)
    (new : ObjOk P w (upd H x o') h' x o') : HOk P w (upd H x o') h' := fun b u q => by
  have nown : ∀ c y, H c = some (.own y) → c ≠ x := fun c y r z => by subst z; rw [r] at mu; exact mu
  have ntup : ∀ c xs, H c = some (.tup xs) → c ≠ x := fun c xs r z => by subst z; rw [r] at mu; exact mu
  by_cases hb : b = x
  · subst hb; rw [upd_same] at q; cases q; exact new
  · rw [upd_ne hb] at q
    by_cases hbe : b = e
    · have q' : H b = some (.own x) := by
        rcases he with z | z
        · exact absurd (hbe.trans z) hb
        · rw [hbe]; exact z
      rw [q] at q'; cases q'
      obtain ⟨v, hv⟩ := heo
      exact ⟨v, by rw [hbe]; exact hv⟩
    · refine (ok b u q).stay (fun c v hc r => k c v ?_ r) (fun c r => by rw [upd_ne (nown c b r)]; exact r) fun c xs r => by rw [upd_ne (ntup c xs r)]; exact r
      rcases hc with rfl | hc
      · exact hbe
      · rintro rfl
        rcases he with z | z
        · exact nown c b hc z
        · rw [hc] at z; cases z; exact hb rfl
end

structure Un (fs ex : List Addr) (H H' : Hp) (h h' : Heap) : Prop where
  keep : ∀ b o, h.get? b = some o → H b = none → b ∉ fs → b ∉ ex → h'.get? b = some o
  slot : ∀ b o, h.get? b = some o → H b = none → b ∈ fs → b ∉ ex → ∃ sl, h'.get? b = some { o with slots := sl }
  free : ∀ b o, h.get? b = some o → H b = none → b ∉ ex → H' b = none
  there : ∀ b o, h.get? b = some o → b ∉ ex → ∃ o', h'.get? b = some o'
  tups : ∀ b xs, H b = some (.tup xs) → H' b = some (.tup xs)
  frzs : ∀ b o u, H b = some (.frz o u) → H' b = some (.frz o u)
  tbls : ∀ b ps, H b = some (.tbl ps) → ∃ more, H' b = some (.tbl (ps ++ more))
section
variable {fs fs' ex ex' : List Addr} {H H1 H2 : Hp} {h h1 h2 h' : Heap} {a x e : Addr} {o : HO}
theorem Un.any (u : Un fs ex H H1 h h1) {b : Addr} {ob : Obj} (q : h.get? b = some ob) (n : H b = none) (hx : b ∉ ex) : ∃ sl, h1.get? b = some { ob with slots := sl } := by
  by_cases hb : b ∈ fs
  · exact u.slot b ob q n hb hx
  · exact ⟨ob.slots, u.keep b ob q n hb hx⟩
theorem Un.trans (a : Un fs ex H H1 h h1) (b : Un fs ex H1 H2 h1 h2) : Un fs ex H H2 h h2 where
  keep := fun c ob q n hc hx => b.keep c ob (a.keep c ob q n hc hx) (a.free c ob q n hx) hc hx
  slot := fun c ob q n hc hx => by
    obtain ⟨sl, e1⟩ := a.slot c ob q n hc hx
    obtain ⟨sl', e2⟩ := b.slot c _ e1 (a.free c ob q n hx) hc hx
    exact ⟨sl', e2⟩
  free := fun c ob q n hx => by
    obtain ⟨o', e1⟩ := a.there c ob q hx
    exact b.free c o' e1 (a.free c ob q n hx) hx
  there := fun c ob q hx => by
    obtain ⟨o', e1⟩ := a.there c ob q hx
    exact b.there c o' e1 hx
  tups := fun c xs q => b.tups c xs (a.tups c xs q)
  frzs := fun c ob xs q => b.frzs c ob xs (a.frzs c ob xs q)
  tbls := fun c ps q => by
    obtain ⟨m1, e1⟩ := a.tbls c ps q
    obtain ⟨m2, e2⟩ := b.tbls c _ e1
    exact ⟨m1 ++ m2, by rw [e2, Array.append_assoc]⟩
theorem Un.kept (k : ∀ b u, h.get? b = some u → h'.get? b = some u) : Un fs ex H H h h' :=
  ⟨fun b ob q _ _ _ => k b ob q, fun b ob q _ _ _ => ⟨ob.slots, k b ob q⟩, fun _ _ _ n _ => n, fun b ob q _ => ⟨ob, k b ob q⟩, fun _ _ q => q, fun _ _ _ q => q, fun _ ps q => ⟨#[], by rw [q]; simp⟩⟩
theorem Un.refl : Un fs ex H H h h := Un.kept fun _ _ q => q
theorem Un.laid (k : ∀ b u, h.get? b = some u → h'.get? b = some u) (hp : h.objs.size ≤ a) (hn : H a = none) : Un fs ex H (upd H a o) h h' where
  keep := fun b u q _ _ _ => k b u q
  slot := fun b u q _ _ _ => ⟨u.slots, k b u q⟩
  free := fun b u q n _ => by rw [upd_ne (Nat.ne_of_lt (Nat.lt_of_lt_of_le (Heap.lt_size q) hp))]; exact n
  there := fun b u q _ => ⟨u, k b u q⟩
  tups := fun b xs q => by rw [upd_ne (ne_of_none q hn)]; exact q
  frzs := fun b u xs q => by rw [upd_ne (ne_of_none q hn)]; exact q
  tbls := fun b ps q => ⟨#[], by rw [upd_ne (ne_of_none q hn), q]; simp⟩
theorem Un.write (mu : Mut (H x)) (he : e = x ∨ H e = some (.own x)) (k : ∀ b u, b ≠ e → h.get? b = some u → h'.get? b = some u) (heo : ∃ u, h'.get? e = some u) : Un fs ex H (upd H x o) h h' := by
  have hx : ∀ b, H b = none → b ≠ x := fun b n z => by subst z; rw [n] at mu; exact mu
  have hb : ∀ b, H b = none → b ≠ e := fun b n z => by
    subst z
    rcases he with r | r
    · exact hx b n r
    · rw [n] at r; cases r
  have hm : ∀ b u, H b = some u → ¬ Mut (some u) → b ≠ x := fun b u q nm z => by subst z; rw [q] at mu; exact nm mu
  refine ⟨fun b u q n _ _ => k b u (hb b n) q, fun b u q n _ _ => ⟨u.slots, k b u (hb b n) q⟩, fun b u q n _ => by rw [upd_ne (hx b n)]; exact n, fun b u q _ => ?_,
    fun b xs q => by rw [upd_ne (hm b _ q fun z => z)]; exact q, fun b u xs q => by rw [upd_ne (hm b _ q fun z => z)]; exact q, fun b ps q => ⟨#[], by rw [upd_ne (hm b _ q fun z => z), q]; simp⟩⟩
  by_cases hbe : b = e
  · subst hbe; exact heo
  · exact ⟨u, k b u hbe q⟩
theorem Un.mono (u : Un fs ex H H1 h h1) (hs : ∀ b ∈ fs, b ∈ fs') (hx : ∀ b ∈ ex, b ∈ ex') : Un fs' ex' H H1 h h1 :=
  ⟨fun b ob q n hb he => u.keep b ob q n (fun z => hb (hs b z)) fun z => he (hx b z), fun _ _ q n _ he => u.any q n fun z => he (hx _ z), fun b ob q n he => u.free b ob q n fun z => he (hx b z), fun b ob q he => u.there b ob q fun z => he (hx b z), u.tups, u.frzs, u.tbls⟩
end

def trk (h : Heap) (H : Hp) : List Addr := (List.range h.objs.size).filter fun a => (H a).isSome
def hidT (h : Heap) (H : Hp) : Heap := PySem.W.hideAll h (trk h H)
theorem hidT_size (h : Heap) (H : Hp) : (hidT h H).objs.size = h.objs.size := PySem.W.hideAll_size _ _
theorem hidT_get {h : Heap} {H : Hp} {b : Addr} {o : Obj} (e : h.get? b = some o) (n : H b = none) : (hidT h H).get? b = some o :=
  PySem.W.hideAll_get _ e fun hm => by
    have q : (H b).isSome = true := (List.mem_filter.mp hm).2
    rw [n] at q; simp at q
theorem of_hidT {h : Heap} {H : Hp} {b : Addr} {o : Obj} (e : (hidT h H).get? b = some o) : h.get? b = some o ∧ H b = none := by
  have e' : h.get? b = some o := PySem.W.of_hideAll (trk h H) e
  refine ⟨e', ?_⟩
  cases q : H b with
  | none => rfl
  | some x =>
    have hm : b ∈ trk h H := List.mem_filter.mpr ⟨List.mem_range.mpr (Heap.lt_size e'), by simp [q]⟩
    have z : (hidT h H).get? b = none := PySem.W.hideAll_none (trk h H) hm
    rw [z] at e; cases e

def allNews (g h : Heap) (L : Addr) : List (Addr × Obj) := (List.range h.objs.size).filterMap fun a => if a = L ∨ (g.get? a).isSome = true then none else (h.get? a).map fun o => (a, o)
def rest (g h : Heap) (L d : Addr) : List (Addr × Obj) := (allNews g h L).filter fun p => decide (p.1 ≠ d)
end L2

namespace L2
open PySem PySem.Spec PyProof.Rows

/-- the module's facts, over the base: the heap at the law's entry without what is tracked there -/
structure Mod (K : PySem.W.Frag) (mg : Str → Option Value) (base : Heap) : Prop where
  kin : K.In base
  glob : base.Ns mainGlobals mg
  blt : ∃ mb, base.Ns builtinsNs mb ∧ ∀ x : Str, x ≠ "__name__" → mb x = bootBuiltins x
  nolimit : base.NoLimit

/-- the context: a def's body (or a comprehension's block) running. base: fixed through the whole law; s₀, H₀: the entry; outer: the frames whose slots others may change (a def's callers); stack: all frames that run;
   ex: iterators that were made ahead of the entry and are walked here (a comprehension's); fn: the names whose cells were made at the entry (a def: all; a comprehension's block: its own); calm: not within an except suite; pn: pins that every state bears; xe: what is wanted of an exception that leaves the code -/
structure Cx where
  prog : Program
  w : World
  K : PySem.W.Frag
  mg : Str → Option Value
  base : Heap
  A : Around
  N : List Str
  s₀ : Shared
  H₀ : Hp
  env : Env
  outer : List Env
  stack : List Env
  ex : List Addr
  fn : Str → Bool
  calm : Bool
  pn : List (Addr × Obj)
  xe : Value → Shared → Prop
/-- the callers' frames -/
def frs (l : List Env) : List Addr := l.filterMap (·.frame)
abbrev Cx.fs (X : Cx) : List Addr := frs X.outer

def Vis (sc : Scope) (x : Str) : Prop := sc.names.lookup x = some .local ∨ sc.names.lookup x = some .cell ∨ sc.names.lookup x = some .free
def Loc (sc : Scope) (x : Str) : Prop := sc.names.lookup x = some .local ∨ sc.names.lookup x = some .cell
def Look (env : Env) (h : Heap) (m : Str → Option Value) (x : Str) (u : Value) : Prop :=
  (env.kindOf x = some .local ∧ m x = some u) ∨ ((env.kindOf x = some .cell ∨ env.kindOf x = some .free) ∧ ∃ c, env.cells.lookup x = some c ∧ h.IsCell c (some u))

structure Cx.Ok (X : Cx) : Prop where
  mod : Mod X.K X.mg X.base
  kind : X.env.scope.kind = .function
  glob : X.env.globals = mainGlobals
  blt : X.env.builtins = builtinsNs
  above : X.s₀.heap.objs.size ≤ X.env.locals
  inj : ∀ x y c, X.env.cells.lookup x = some c → X.env.cells.lookup y = some c → x = y
  has : ∀ x, (X.env.kindOf x = some .cell ∨ X.env.kindOf x = some .free) → ∃ c, X.env.cells.lookup x = some c
  cab : ∀ x c, X.fn x = true → X.env.cells.lookup x = some c → X.s₀.heap.objs.size ≤ c
  hd : X.calm = true → X.A.handled = none
  frames : X.A.frames = some X.stack
  stk : X.stack = X.outer ∨ (X.stack = X.env :: X.outer ∧ X.env.frame = some X.env.locals)
  exf : ∀ b ∈ X.ex, b ≠ X.env.locals ∧ ∀ x c, X.env.cells.lookup x = some c → c ≠ b
  bs : ∀ b o, X.base.get? b = some o → X.s₀.heap.get? b = some o ∧ X.H₀ b = none
  bsz : X.base.objs.size ≤ X.s₀.heap.objs.size
  noex : ∀ b o, X.base.get? b = some o → b ∉ X.ex
  exfs : ∀ b ∈ X.ex, b ∉ X.fs
  funs : X.s₀.heap.FunFrames X.base X.outer
  frf : ∀ b ∈ X.fs, X.H₀ b = none

structure Inv (X : Cx) (pins : List (Addr × Obj)) (σ : List (Option V)) (H : Hp) (s : Shared) : Prop where
  ok : X.Ok
  os : s.os = X.s₀.os
  bare : AllBare s.gens
  base : Un X.fs X.ex X.H₀ H X.s₀.heap s.heap
  loc : ∃ m, s.heap.Ns X.env.locals m ∧ ∀ (i : Nat) (x : Str) (v : V), X.N[i]? = some x → σ[i]? = some (some v) → Vis X.env.scope x → ∃ u, RelV v u ∧ Look X.env s.heap m x u
  cell : ∀ x c, X.env.cells.lookup x = some c → ∃ v, s.heap.IsCell c v
  free : H X.env.locals = none
  freeC : ∀ x c, X.env.cells.lookup x = some c → H c = none
  pin : ∀ p ∈ X.pn ++ pins, s.heap.get? p.1 = some p.2 ∧ H p.1 = none ∧ p.1 ≠ X.env.locals ∧ p.1 ∉ X.fs ∧ ∀ v, p.2.data ≠ .cell v
  hok : HOk X.prog X.w H s.heap
  len : σ.length = X.N.length
  tk : 0 < s.toks

section
variable {X : Cx} {pins : List (Addr × Obj)} {σ : List (Option V)} {H H' : Hp} {s : Shared} {h' : Heap}

theorem Cx.Ok.nofr (ok : X.Ok) {b : Addr} {o : Obj} (e : X.base.get? b = some o) : b ∉ X.fs := fun hb => by
  have := (ok.funs.mem hb).1
  rw [e] at this; cases this
theorem Inv.bs (I : Inv X pins σ H s) : ∀ b o, X.base.get? b = some o → s.heap.get? b = some o ∧ H b = none := fun b o e =>
  ⟨I.base.keep b o (I.ok.bs b o e).1 (I.ok.bs b o e).2 (I.ok.nofr e) (I.ok.noex b o e), I.base.free b o (I.ok.bs b o e).1 (I.ok.bs b o e).2 (I.ok.noex b o e)⟩
theorem Inv.bk (I : Inv X pins σ H s) : ∀ b o, X.base.get? b = some o → s.heap.get? b = some o := fun b o e => (I.bs b o e).1
theorem Inv.mod (I : Inv X pins σ H s) : Mod X.K X.mg X.base := I.ok.mod
theorem Inv.kIn (I : Inv X pins σ H s) : X.K.In s.heap := I.ok.mod.kin.keeps I.bk
theorem Inv.nolimit (I : Inv X pins σ H s) : s.heap.NoLimit := I.ok.mod.nolimit.keeps I.bk
/-- the frame over the base: for OpenK's rules (K.In X.base is I.mod.kin) -/
theorem Inv.fr (I : Inv X pins σ H s) : ∃ m, Fr X.base X.env.locals s.heap m :=
  let ⟨m, hn, _⟩ := I.loc
  ⟨m, hn, I.bk, Nat.le_trans I.ok.bsz I.ok.above⟩
theorem Inv.lt (I : Inv X pins σ H s) : X.env.locals < s.heap.objs.size := let ⟨_, hn, _⟩ := I.loc; hn.lt
theorem Inv.sz (I : Inv X pins σ H s) : X.s₀.heap.objs.size ≤ s.heap.objs.size := Nat.le_trans I.ok.above (Nat.le_of_lt I.lt)
theorem Inv.nofs (I : Inv X pins σ H s) {a : Addr} (h : s.heap.objs.size ≤ a) : a ∉ X.fs := fun hb => by
  obtain ⟨_, o, ho, _⟩ := I.ok.funs.mem hb
  exact absurd (Nat.lt_of_lt_of_le (Heap.lt_size ho) (Nat.le_trans I.sz h)) (Nat.lt_irrefl _)
theorem Inv.cne (I : Inv X pins σ H s) : ∀ x c, X.env.cells.lookup x = some c → c ≠ X.env.locals := fun x c e z => by
  obtain ⟨v, o, ho, hd⟩ := I.cell x c e
  obtain ⟨m, ⟨o', es, ep, ho', hd', _⟩, _⟩ := I.loc
  rw [z, ho'] at ho; cases ho; rw [hd'] at hd; cases hd
theorem Inv.funs (I : Inv X pins σ H s) : s.heap.FunFrames X.base X.outer := by
  have all : ∀ (l : List Env), (∀ b ∈ frs l, b ∈ X.fs) → X.s₀.heap.FunFrames X.base l → s.heap.FunFrames X.base l := by
    intro l
    induction l with
    | nil => intro _ _; trivial
    | cons env r ih =>
      intro hs hl
      obtain ⟨hk, ⟨L, o, hf, hn, ho, hd⟩, hr⟩ := hl
      have hL : L ∈ X.fs := hs L (by unfold frs; rw [List.filterMap_cons, hf]; exact List.mem_cons_self)
      obtain ⟨sl, e⟩ := I.base.slot L o ho (I.ok.frf L hL) hL fun z => I.ok.exfs L z hL
      exact ⟨hk, ⟨L, _, hf, hn, e, hd⟩, ih (fun b hb => hs b (by unfold frs; rw [List.filterMap_cons, hf]; exact List.mem_cons_of_mem _ hb)) hr⟩
  exact all X.outer (fun _ hb => hb) I.ok.funs

/-- the frames that run, for a call -/
theorem Inv.stack (I : Inv X pins σ H s) : s.heap.FunFrames X.base X.stack := by
  rcases I.ok.stk with e | ⟨e, hf⟩
  · rw [e]; exact I.funs
  · rw [e]
    obtain ⟨m, hn, _⟩ := I.loc
    refine .cons (by rw [I.ok.kind]; decide) hf hn ?_ I.funs
    exact Heap.get?_none_of_le (Nat.le_trans I.ok.bsz I.ok.above)
theorem Inv.stkSub (I : Inv X pins σ H s) : ∀ b ∈ frs X.stack, b ∈ X.env.locals :: X.fs := fun b hb => by
  rcases I.ok.stk with e | ⟨e, hf⟩
  · rw [e] at hb; exact List.mem_cons_of_mem _ hb
  · rw [e] at hb
    unfold frs at hb
    rw [List.filterMap_cons, hf] at hb
    exact hb
theorem Inv.stkFree (I : Inv X pins σ H s) : ∀ b ∈ frs X.stack, H b = none := fun b hb => by
  rcases List.mem_cons.mp (I.stkSub b hb) with e | hb
  · rw [e]; exact I.free
  · obtain ⟨_, o, ho, _⟩ := I.ok.funs.mem hb
    exact I.base.free b o ho (I.ok.frf b hb) fun z => I.ok.exfs b z hb

/-- THE STEP: the untracked objects but the frame and the records at ch are kept (the callers' frames up to slots), the frame's map is kept, the new abstract heap is held -/
theorem Inv.step {g' : Array GenState} {t' : Nat} {d' : Drawn} {ch : List Addr} (I : Inv X pins σ H s)
    (hch : ∀ b ∈ ch, (b ∈ X.ex ∨ X.s₀.heap.objs.size ≤ b) ∧ b ≠ X.env.locals ∧ (∀ x c, X.env.cells.lookup x = some c → c ≠ b) ∧ ∀ p ∈ X.pn ++ pins, p.1 ≠ b)
    (keep : ∀ b o, b ≠ X.env.locals → b ∉ X.fs → b ∉ ch → s.heap.get? b = some o → H b = none → h'.get? b = some o)
    (slot : ∀ b o, b ≠ X.env.locals → b ∈ X.fs → b ∉ ch → s.heap.get? b = some o → H b = none → ∃ sl, h'.get? b = some { o with slots := sl }) (free : ∀ b o, b ∉ ch → s.heap.get? b = some o → H b = none → H' b = none)
    (there : ∀ b o, b ∉ ch → s.heap.get? b = some o → ∃ o', h'.get? b = some o')
    (tups : ∀ b xs, H b = some (.tup xs) → H' b = some (.tup xs)) (frzs : ∀ b o u, H b = some (.frz o u) → H' b = some (.frz o u)) (tbls : ∀ b ps, H b = some (.tbl ps) → ∃ more, H' b = some (.tbl (ps ++ more)))
    (ns : ∀ m, s.heap.Ns X.env.locals m → h'.Ns X.env.locals m) (hok : HOk X.prog X.w H' h') (hg : AllBare g') (ht : 0 < t' := by first | exact Nat.succ_pos _ | assumption | exact Inv.tk ‹_› | omega) :
    Inv X pins σ H' { s with heap := h', gens := g', drawn := d', toks := t' } := by
  have neL : ∀ b o, X.s₀.heap.get? b = some o → b ≠ X.env.locals := fun b o e => Nat.ne_of_lt (Nat.lt_of_lt_of_le (Heap.lt_size e) I.ok.above)
  have neC : ∀ b o, X.s₀.heap.get? b = some o → b ∉ X.ex → b ∉ ch := fun b o e hx hb => by
    rcases (hch b hb).1 with z | z
    · exact hx z
    · exact absurd (Nat.lt_of_lt_of_le (Heap.lt_size e) z) (Nat.lt_irrefl _)
  have cellK : ∀ x c, X.env.cells.lookup x = some c → ∀ v, s.heap.IsCell c v → h'.IsCell c v := fun x c e v ⟨o, ho, hd⟩ => by
    have nch : c ∉ ch := fun z => (hch c z).2.2.1 x c e rfl
    by_cases hc : c ∈ X.fs
    · obtain ⟨sl, q⟩ := slot c o (I.cne x c e) hc nch ho (I.freeC x c e)
      exact ⟨_, q, hd⟩
    · exact ⟨o, keep c o (I.cne x c e) hc nch ho (I.freeC x c e), hd⟩
  refine ⟨I.ok, I.os, hg, ⟨fun b o e n hb hx => ?_, fun b o e n hb hx => ?_, fun b o e n hx => ?_, fun b o e hx => ?_, fun b xs e => tups b xs (I.base.tups b xs e), fun b o xs e => frzs b o xs (I.base.frzs b o xs e), fun b ps e => ?_⟩, ?_, fun x c e => ?_, ?_, fun x c e => ?_, fun p hp => ?_, hok, I.len, ht⟩
  · exact keep b o (neL b o e) hb (neC b o e hx) (I.base.keep b o e n hb hx) (I.base.free b o e n hx)
  · obtain ⟨sl, e1⟩ := I.base.slot b o e n hb hx
    obtain ⟨sl', e2⟩ := slot b _ (neL b o e) hb (neC b o e hx) e1 (I.base.free b o e n hx)
    exact ⟨sl', e2⟩
  · obtain ⟨o', e1⟩ := I.base.there b o e hx
    exact free b o' (neC b o e hx) e1 (I.base.free b o e n hx)
  · obtain ⟨o', e1⟩ := I.base.there b o e hx
    exact there b o' (neC b o e hx) e1
  · obtain ⟨m1, e1⟩ := I.base.tbls b ps e
    obtain ⟨m2, e2⟩ := tbls b _ e1
    exact ⟨m1 ++ m2, by rw [e2, Array.append_assoc]⟩
  · obtain ⟨m, hn, hl⟩ := I.loc
    refine ⟨m, ns m hn, fun i x v e1 e2 e3 => ?_⟩
    obtain ⟨u, r, l⟩ := hl i x v e1 e2 e3
    refine ⟨u, r, ?_⟩
    rcases l with l | ⟨k, c, e, z⟩
    · exact .inl l
    · exact .inr ⟨k, c, e, cellK x c e _ z⟩
  · obtain ⟨v, z⟩ := I.cell x c e
    exact ⟨v, cellK x c e v z⟩
  · obtain ⟨m, ⟨o, _, _, ho, _⟩, _⟩ := I.loc
    exact free _ o (fun z => (hch _ z).2.1 rfl) ho I.free
  · obtain ⟨v, o, ho, hd⟩ := I.cell x c e
    exact free c o (fun z => (hch c z).2.2.1 x c e rfl) ho (I.freeC x c e)
  · obtain ⟨e, n, ne, nf, d⟩ := I.pin p hp
    have nch : p.1 ∉ ch := fun z => (hch p.1 z).2.2.2 p hp rfl
    exact ⟨keep p.1 p.2 ne nf nch e n, free p.1 p.2 nch e n, ne, nf, d⟩
/-- .. where the frame's own object is kept too -/
theorem Inv.un {t' : Nat} (I : Inv X pins σ H s) (u : Un X.fs [] H H' s.heap h') (hok : HOk X.prog X.w H' h') (ht : 0 < t' := by first | exact Nat.succ_pos _ | assumption | exact Inv.tk ‹_› | omega) : Inv X pins σ H' { s with heap := h', toks := t' } := by
  obtain ⟨m, ⟨o, es, ep, ho, r⟩, _⟩ := id I.loc
  obtain ⟨sl, hL⟩ := u.any ho I.free (by simp)
  exact I.step (g' := s.gens) (d' := s.drawn) (ch := []) (fun _ z => nomatch z) (fun b o _ hb _ e n => u.keep b o e n hb (by simp)) (fun b o _ hb _ e n => u.slot b o e n hb (by simp)) (fun b o _ e n => u.free b o e n (by simp)) (fun b o _ e => u.there b o e (by simp)) u.tups u.frzs u.tbls (fun m' hm => by
    obtain ⟨o', es', ep', ho', r'⟩ := hm
    rw [ho] at ho'; cases ho'
    exact ⟨_, es', ep', hL, r'⟩) hok I.bare
/-- behind a call (or a comprehension's block): the slots of this frame may have changed too, the records at ch may have turned -/
theorem Inv.call {g' : Array GenState} {t' : Nat} {d' : Drawn} {ch : List Addr} (I : Inv X pins σ H s) (u : Un (frs X.stack) ch H H' s.heap h') (hok : HOk X.prog X.w H' h') (hg : AllBare g')
    (hch : ∀ b ∈ ch, (b ∈ X.ex ∨ X.s₀.heap.objs.size ≤ b) ∧ b ≠ X.env.locals ∧ (∀ x c, X.env.cells.lookup x = some c → c ≠ b) ∧ ∀ p ∈ X.pn ++ pins, p.1 ≠ b) (ht : 0 < t' := by first | exact Nat.succ_pos _ | assumption | exact Inv.tk ‹_› | omega) :
    Inv X pins σ H' { s with heap := h', gens := g', drawn := d', toks := t' } := by
  obtain ⟨m, ⟨o, es, ep, ho, r⟩, _⟩ := id I.loc
  obtain ⟨sl, hL⟩ := u.any ho I.free fun z => (hch _ z).2.1 rfl
  exact I.step (ch := ch) hch (fun b o hL hb hc e n => u.keep b o e n (fun z => (List.mem_cons.mp (I.stkSub b z)).elim hL hb) hc) (fun b o _ _ hc e n => u.any e n hc) (fun b o hc e n => u.free b o e n hc) (fun b o hc e => u.there b o e hc) u.tups u.frzs u.tbls (fun m' hm => by
    obtain ⟨o', es', ep', ho', r'⟩ := hm
    rw [ho] at ho'; cases ho'
    exact ⟨_, es', ep', hL, r'⟩) hok hg
/-- an untracked record of ours (an iterator) has turned -/
theorem Inv.turned {t' : Nat} {it : Addr} (I : Inv X pins σ H s) (k : ∀ b o, b ≠ it → s.heap.get? b = some o → h'.get? b = some o) (hn : H it = none) (hL : it ≠ X.env.locals)
    (h1 : it ∈ X.ex ∨ X.s₀.heap.objs.size ≤ it) (h2 : ∀ x c, X.env.cells.lookup x = some c → c ≠ it) (h3 : ∀ p ∈ X.pn ++ pins, p.1 ≠ it) (ht : 0 < t' := by first | exact Nat.succ_pos _ | assumption | exact Inv.tk ‹_› | omega) : Inv X pins σ H { s with heap := h', toks := t' } := by
  have nit : ∀ b u, H b = some u → b ≠ it := fun b u e z => by rw [z, hn] at e; cases e
  refine I.step (g' := s.gens) (d' := s.drawn) (ch := [it]) (fun b hb => ?_) (fun b o _ _ hc e _ => k b o (fun z => hc (by simp [z])) e) (fun b o _ _ hc e _ => ⟨o.slots, k b o (fun z => hc (by simp [z])) e⟩) (fun _ _ _ _ n => n)
    (fun b o hc e => ⟨o, k b o (fun z => hc (by simp [z])) e⟩) (fun _ _ e => e) (fun _ _ _ e => e) (fun b ps e => ⟨#[], by rw [e]; simp⟩) (fun m hm => ?_) (fun b u e => ?_) I.bare
  · have e : b = it := by simpa using hb
    subst e
    exact ⟨h1, hL, h2, h3⟩
  · obtain ⟨o, es, ep, ho, r⟩ := hm
    exact ⟨o, es, ep, k _ o (Ne.symm hL) ho, r⟩
  · refine (I.hok b u e).stay (fun c v hc q => k c v ?_ q) (fun _ q => q) fun _ _ q => q
    rcases hc with z | z
    · rw [z]; exact nit b u e
    · exact nit c _ z
theorem Inv.tok (I : Inv X pins σ H s) (t' : Nat) (ht : 0 < t' := by first | exact Nat.succ_pos _ | assumption | exact Inv.tk ‹_› | omega) : Inv X pins σ H { s with toks := t' } := I.un (h' := s.heap) (t' := t') Un.refl I.hok
/-- all objects kept -/
theorem Inv.kept {t' : Nat} (I : Inv X pins σ H s) (k : ∀ b u, s.heap.get? b = some u → h'.get? b = some u) (ht : 0 < t' := by first | exact Nat.succ_pos _ | assumption | exact Inv.tk ‹_› | omega) : Inv X pins σ H { s with heap := h', toks := t' } := I.un (Un.kept k) (I.hok.kept k)
/-- a new object laid and tracked -/
theorem Inv.laid {a : Addr} {o : HO} {t' : Nat} (I : Inv X pins σ H s) (k : ∀ b u, s.heap.get? b = some u → h'.get? b = some u) (hp : s.heap.objs.size ≤ a) (new : ObjOk X.prog X.w (upd H a o) h' a o) (ht : 0 < t' := by first | exact Nat.succ_pos _ | assumption | exact Inv.tk ‹_› | omega) :
    Inv X pins σ (upd H a o) { s with heap := h', toks := t' } := I.un (Un.laid k hp (I.hok.fresh hp)) (I.hok.laid k hp new)
/-- an object written -/
theorem Inv.write {x e : Addr} {o : HO} {t' : Nat} (I : Inv X pins σ H s) (mu : Mut (H x)) (he : e = x ∨ H e = some (.own x)) (k : ∀ b u, b ≠ e → s.heap.get? b = some u → h'.get? b = some u) (heo : ∃ u, h'.get? e = some u)
    (new : ObjOk X.prog X.w (upd H x o) h' x o) (ht : 0 < t' := by first | exact Nat.succ_pos _ | assumption | exact Inv.tk ‹_› | omega) : Inv X pins σ (upd H x o) { s with heap := h', toks := t' } := I.un (Un.write mu he k heo) (I.hok.write mu he k heo new)
/-- forgetting slots, pins -/
theorem Inv.weak {σ' : List (Option V)} (I : Inv X pins σ H s) (hl : σ'.length = σ.length) (w : ∀ (i : Nat) v, σ'[i]? = some (some v) → σ[i]? = some (some v)) : Inv X pins σ' H s :=
  ⟨I.ok, I.os, I.bare, I.base, let ⟨m, hn, hl'⟩ := I.loc; ⟨m, hn, fun i x v e1 e2 e3 => hl' i x v e1 (w i v e2) e3⟩, I.cell, I.free, I.freeC, I.pin, I.hok, hl.trans I.len, I.tk⟩
theorem Inv.pins_of {pins' : List (Addr × Obj)} (I : Inv X pins σ H s) (h : ∀ p ∈ pins', s.heap.get? p.1 = some p.2 ∧ H p.1 = none ∧ p.1 ≠ X.env.locals ∧ p.1 ∉ X.fs ∧ ∀ v, p.2.data ≠ .cell v) : Inv X pins' σ H s :=
  ⟨I.ok, I.os, I.bare, I.base, I.loc, I.cell, I.free, I.freeC, fun p hp => (List.mem_append.mp hp).elim (fun z => I.pin p (List.mem_append_left _ z)) (h p), I.hok, I.len, I.tk⟩

theorem nodup_ix {N : List Str} (hN : N.Nodup) {i j : Nat} {x : Str} (a : N[i]? = some x) (b : N[j]? = some x) : i = j := by
  obtain ⟨h1, e1⟩ := List.getElem?_eq_some_iff.mp a
  obtain ⟨h2, e2⟩ := List.getElem?_eq_some_iff.mp b
  exact (List.getElem_inj hN).mp (e1.trans e2.symm)

/-- a name is stored; what changed -/
theorem store_ok2 {M : Model} {A : Around} {E : Value → Shared → Prop} {i : Nat} {x : Str} {v : V} {u : Value} {Q : Unit → Shared → Prop} (I : Inv X pins σ H s) (hN : X.N.Nodup) (hi : X.N[i]? = some x) (hx : Loc X.env.scope x) (r : RelV v u)
    (h : ∀ s', Inv X pins (σ.set i (some v)) H s' → (∃ a, Heap.SameBut a s.heap s'.heap ∧ (a = X.env.locals ∨ X.env.cells.lookup x = some a)) → Q () s') (hf : X.fn x = true ∨ X.env.scope.names.lookup x = some .local := by first | exact .inl rfl | exact .inr rfl | assumption) : wpAny M A (storeName X.env x u) Q E s := by
  obtain ⟨m, hn, hl⟩ := id I.loc
  have hcls : (X.env.scope.kind == .class || (X.env.scope.kind == .module && X.env.locals != X.env.globals)) = false := by rw [I.ok.kind]; rfl
  have hiσ : i < σ.length := by rw [I.len]; exact (List.getElem?_eq_some_iff.mp hi).1
  have cne := I.cne
  have tracked : ∀ {a : Addr} {h' : Heap}, (∃ o, s.heap.get? a = some o ∧ H a = none) → Heap.SameBut a s.heap h' → HOk X.prog X.w H h' := fun {a h'} ha hs b ob e => by
    obtain ⟨_, _, hfree⟩ := ha
    refine (I.hok b ob e).stay (fun c w' hc q => (hs.2 c ?_).trans q) (fun _ q => q) fun _ _ q => q
    rintro rfl
    rcases hc with rfl | hc
    · rw [hfree] at e; cases e
    · rw [hfree] at hc; cases hc
  rcases hx with hk | hk
  · refine wpAny_storeName_local hk hn (fun h' hn' hs => ?_) hcls
    obtain ⟨oL, _, _, hoL, _⟩ := id hn
    refine h _ ⟨I.ok, I.os, I.bare, ⟨fun b o e n hb hx => ?_, fun b o e n hb hx => ?_, I.base.free, fun b o e hx => ?_, I.base.tups, I.base.frzs, I.base.tbls⟩, ⟨_, hn', fun j y v' e1 e2 e3 => ?_⟩, fun y c e => ?_, I.free, I.freeC, fun p hp => ?_, tracked ⟨oL, hoL, I.free⟩ hs, by simpa using I.len, by first | exact I.tk | exact Nat.succ_pos _⟩ ⟨_, hs, .inl rfl⟩
    · exact (hs.2 b (Nat.ne_of_lt (Nat.lt_of_lt_of_le (Heap.lt_size e) I.ok.above))).trans (I.base.keep b o e n hb hx)
    · obtain ⟨sl, e1⟩ := I.base.slot b o e n hb hx
      exact ⟨sl, (hs.2 b (Nat.ne_of_lt (Nat.lt_of_lt_of_le (Heap.lt_size e) I.ok.above))).trans e1⟩
    · obtain ⟨o', e1⟩ := I.base.there b o e hx
      exact ⟨o', (hs.2 b (Nat.ne_of_lt (Nat.lt_of_lt_of_le (Heap.lt_size e) I.ok.above))).trans e1⟩
    · by_cases hj : j = i
      · subst hj
        rw [hi] at e1; cases e1
        rw [List.getElem?_set_self hiσ] at e2
        cases e2
        exact ⟨u, r, .inl ⟨hk, by simp⟩⟩
      · rw [List.getElem?_set_ne (Ne.symm hj)] at e2
        obtain ⟨u', r', q⟩ := hl j y v' e1 e2 e3
        refine ⟨u', r', ?_⟩
        rcases q with ⟨k, e⟩ | ⟨k, c, e, z⟩
        · refine .inl ⟨k, ?_⟩
          have : y ≠ x := fun e => hj (nodup_ix hN e1 (e ▸ hi))
          simp [this, e]
        · exact .inr ⟨k, c, e, z.sameBut hs (cne y c e)⟩
    · obtain ⟨w', z⟩ := I.cell y c e
      exact ⟨w', z.sameBut hs (cne y c e)⟩
    · obtain ⟨e, n, ne, nf, d⟩ := I.pin p hp
      exact ⟨(hs.2 p.1 ne).trans e, n, ne, nf, d⟩
  · have hfn : X.fn x = true := by
      rcases hf with z | z
      · exact z
      · rw [z] at hk; cases hk
    obtain ⟨c, hc⟩ := I.ok.has x (.inl hk)
    obtain ⟨w', z⟩ := I.cell x c hc
    refine wpAny_storeName_cell I.ok.kind hk hc z (fun h' hc' hs => ?_)
    obtain ⟨oc, hoc, hocd⟩ := id z
    refine h { s with heap := h' } ⟨I.ok, I.os, I.bare, ⟨fun b o e n hb hx => ?_, fun b o e n hb hx => ?_, I.base.free, fun b o e hx => ?_, I.base.tups, I.base.frzs, I.base.tbls⟩, ⟨m, hn.sameBut hs (Ne.symm (cne x c hc)), fun j y v' e1 e2 e3 => ?_⟩, fun y c' e => ?_, I.free, I.freeC, fun p hp => ?_, tracked ⟨oc, hoc, I.freeC x c hc⟩ hs, by simpa using I.len, by first | exact I.tk | exact Nat.succ_pos _⟩ ⟨c, hs, .inr hc⟩
    · exact (hs.2 b (Nat.ne_of_lt (Nat.lt_of_lt_of_le (Heap.lt_size e) (I.ok.cab x c hfn hc)))).trans (I.base.keep b o e n hb hx)
    · obtain ⟨sl, e1⟩ := I.base.slot b o e n hb hx
      exact ⟨sl, (hs.2 b (Nat.ne_of_lt (Nat.lt_of_lt_of_le (Heap.lt_size e) (I.ok.cab x c hfn hc)))).trans e1⟩
    · obtain ⟨o', e1⟩ := I.base.there b o e hx
      exact ⟨o', (hs.2 b (Nat.ne_of_lt (Nat.lt_of_lt_of_le (Heap.lt_size e) (I.ok.cab x c hfn hc)))).trans e1⟩
    · by_cases hj : j = i
      · subst hj
        rw [hi] at e1; cases e1
        rw [List.getElem?_set_self hiσ] at e2
        cases e2
        exact ⟨u, r, .inr ⟨.inl hk, c, hc, hc'⟩⟩
      · rw [List.getElem?_set_ne (Ne.symm hj)] at e2
        obtain ⟨u', r', q⟩ := hl j y v' e1 e2 e3
        refine ⟨u', r', ?_⟩
        rcases q with q | ⟨k, c', e, z'⟩
        · exact .inl q
        · refine .inr ⟨k, c', e, z'.sameBut hs ?_⟩
          rintro rfl
          exact hj (nodup_ix hN e1 (I.ok.inj _ _ _ e hc ▸ hi))
    · by_cases hcc : c' = c
      · subst hcc; exact ⟨_, hc'⟩
      · obtain ⟨w2, z2⟩ := I.cell y c' e
        exact ⟨w2, z2.sameBut hs hcc⟩
    · obtain ⟨e, n, ne, nf, d⟩ := I.pin p hp
      refine ⟨(hs.2 p.1 ?_).trans e, n, ne, nf, d⟩
      intro q
      rw [q, hoc] at e
      have q' : oc = p.2 := Option.some.inj e
      exact d w' (by rw [← q']; exact hocd)
theorem store_ok {M : Model} {A : Around} {E : Value → Shared → Prop} {i : Nat} {x : Str} {v : V} {u : Value} {Q : Unit → Shared → Prop} (I : Inv X pins σ H s) (hN : X.N.Nodup) (hi : X.N[i]? = some x) (hx : Loc X.env.scope x) (r : RelV v u)
    (h : ∀ s', Inv X pins (σ.set i (some v)) H s' → Q () s') (hf : X.fn x = true ∨ X.env.scope.names.lookup x = some .local := by first | exact .inl rfl | exact .inr rfl | assumption) : wpAny M A (storeName X.env x u) Q E s :=
  store_ok2 I hN hi hx r (fun s' I' _ => h s' I') hf
end

/-- an exception: its class, its own dict's address (where it has one), the abstract heap behind it -/
abbrev XK := Value → Option Addr → Hp → Prop
abbrev St := List (Option V)
abbrev VK := V → Hp → Prop
/-- an expression's reading; a test's; an argument list's -/
abbrev TE := St → Hp → VK → Prop
abbrev TT := St → Hp → (Bool → Hp → Prop) → Prop
abbrev TA := St → Hp → (List V → Hp → Prop) → Prop
/-- what is wanted behind a statement -/
structure Ends where
  nx : St → Hp → Prop
  rt : VK
  bk : St → Hp → Prop := fun _ _ => False
  ct : St → Hp → Prop := fun _ _ => False
abbrev TS := Ends → St → Hp → Prop

def EP (X : Cx) (pins : List (Addr × Obj)) (σ : St) (Q : VK) (u : Value) (s' : Shared) : Prop := ∃ v H', Inv X pins σ H' s' ∧ RelV v u ∧ Q v H'
def TP (X : Cx) (pins : List (Addr × Obj)) (σ : St) (Q : Bool → Hp → Prop) (b : Bool) (s' : Shared) : Prop := ∃ H', Inv X pins σ H' s' ∧ Q b H'
def AP (X : Cx) (pins : List (Addr × Obj)) (σ : St) (Q : List V → Hp → Prop) (us : List Value) (s' : Shared) : Prop := ∃ vs H', Inv X pins σ H' s' ∧ Vals vs us ∧ Q vs H'
def SP (X : Cx) (pins : List (Addr × Obj)) (D : Ends) (f : Flow) (s' : Shared) : Prop :=
  match f with
  | .next => ∃ σ' H', Inv X pins σ' H' s' ∧ D.nx σ' H'
  | .brk => ∃ σ' H', Inv X pins σ' H' s' ∧ D.bk σ' H'
  | .cont => ∃ σ' H', Inv X pins σ' H' s' ∧ D.ct σ' H'
  | .ret u => ∃ v σ' H', Inv X pins σ' H' s' ∧ RelV v u ∧ D.rt v H'

def PE (X : Cx) (e : Expr) (t : TE) : Prop :=
  ∀ (pins : List (Addr × Obj)) (s : Shared) (σ : St) (H : Hp) (Q : VK), Inv X pins σ H s → t σ H Q → wpAny (model X.prog X.w) X.A (eval e X.env) (EP X pins σ Q) X.xe s
def PT (X : Cx) (e : Expr) (t : TT) : Prop :=
  ∀ (pins : List (Addr × Obj)) (s : Shared) (σ : St) (H : Hp) (Q : Bool → Hp → Prop), Inv X pins σ H s → t σ H Q → wpAny (model X.prog X.w) X.A (isTrue e X.env (eval e X.env)) (TP X pins σ Q) X.xe s
/-- a test whatever its 'whole' is (and, or) -/
def PW (X : Cx) (e : Expr) (t : TT) : Prop :=
  ∀ (whole : Sem Value) (pins : List (Addr × Obj)) (s : Shared) (σ : St) (H : Hp) (Q : Bool → Hp → Prop), Inv X pins σ H s → t σ H Q → wpAny (model X.prog X.w) X.A (isTrue e X.env whole) (TP X pins σ Q) X.xe s
theorem PW.pt {X : Cx} {e : Expr} {t : TT} (h : PW X e t) : PT X e t := h _
/-- an argument list (no star), from the left -/
def PA (X : Cx) (es : List Expr) (t : TA) : Prop :=
  ∀ (pos : Pos) (pins : List (Addr × Obj)) (s : Shared) (σ : St) (H : Hp) (Q : List V → Hp → Prop), Inv X pins σ H s → t σ H Q → wpAny (model X.prog X.w) X.A (spliced (backTo pos (starEach es X.env))) (AP X pins σ Q) X.xe s
def PS (X : Cx) (st : Stmt) (t : TS) : Prop :=
  ∀ (pins : List (Addr × Obj)) (s : Shared) (σ : St) (H : Hp) (D : Ends), Inv X pins σ H s → t D σ H → wpAny (model X.prog X.w) X.A (exec st X.env) (SP X pins D) X.xe s
def PSs (X : Cx) (st : List Stmt) (t : TS) : Prop :=
  ∀ (pins : List (Addr × Obj)) (s : Shared) (σ : St) (H : Hp) (D : Ends), Inv X pins σ H s → t D σ H → wpAny (model X.prog X.w) X.A (execs st X.env) (SP X pins D) X.xe s
/-- weaken the end -/
theorem thn {α : Type} {t : Sem α} {Q Q' : α → Shared → Prop} {M : Model} {A : Around} {E : Value → Shared → Prop} {s : Shared} (h : wpAny M A t Q E s) (hQ : ∀ a s, Q a s → Q' a s) : wpAny M A t Q' E s := wpAny_mono h hQ fun _ _ x => x
end L2

namespace L2
open PySem PySem.Spec PyProof.Rows
section
variable {X : Cx}

def tVar (i : Nat) : TE := fun σ H Q => ∃ v, σ[i]? = some (some v) ∧ Q v H
def tC (v : V) : TE := fun _ H Q => Q v H
theorem pe_var {i : Nat} {x : Str} {pos : Pos} (hN : X.N[i]? = some x) (hv : Vis X.env.scope x) (hd : (x == ("__debug__" : Str)) = false := by decide) (hcd : (x == ("__classdict__" : Str)) = false := by decide) : PE X (.Name x pos) (tVar i) := by
  intro pins s σ H Q I h
  obtain ⟨v, e, h⟩ := h
  obtain ⟨m, hn, hl⟩ := I.loc
  obtain ⟨u, r, l⟩ := hl i x v hN e hv
  have fin : EP X pins σ Q u s := ⟨v, H, I, r, h⟩
  rcases l with ⟨hk, hm⟩ | ⟨hk, c, hc, hcell⟩
  · exact wpAny_Name (wpAny_loadName_local I.ok.kind hk hn hm fin) hd
  · rcases hk with hk | hk
    · exact wpAny_Name (wpAny_loadName_cell I.ok.kind hk hc hcell fin) hd
    · exact wpAny_Name (wpAny_loadName_free I.ok.kind hk hc hcell fin hcd) hd
theorem pe_int {i j pos} : PE X (.Constant (.int i) j pos) (tC (.int i)) := fun _ _ _ H _ I h => wpAny_Constant_int ⟨.int i, H, I.tok _, ⟨_, rfl⟩, h⟩
theorem pe_bl {b j pos} : PE X (.Constant (.bool b) j pos) (tC (.bl b)) := fun _ _ _ H _ I h => Constant_bool ⟨.bl b, H, I, rfl, h⟩
theorem pe_non {j pos} : PE X (.Constant .none j pos) (tC .non) := fun _ _ _ H _ I h => Constant_none ⟨.non, H, I, rfl, h⟩
theorem pe_str {x j pos} : PE X (.Constant (.str x) j pos) (tC (.str x)) := fun _ _ _ H _ I h => Calls.Constant_str ⟨.str x, H, I.tok _, ⟨_, rfl⟩, h⟩

/-- a global name of the def -/
def Gl (X : Cx) (x : Str) : Prop := X.env.kindOf x = some .globalImplicit
theorem ld_glob {E : Value → Shared → Prop} {pins : List (Addr × Obj)} {s : Shared} {σ : St} {H : Hp} {x : Str} {u : Value} {pos : Pos} {Q : Value → Shared → Prop} (I : Inv X pins σ H s) (hg : Gl X x) (hm : X.mg x = some u) (h : Q u s)
    (hd : (x == ("__debug__" : Str)) = false := by decide) : wpAny (model X.prog X.w) X.A (eval (.Name x pos) X.env) Q E s :=
  Calls.Name_function_global I.ok.kind hg (Calls.loadGlobal_global (by rw [I.ok.glob]; exact I.mod.glob.keeps I.bk) hm h) hd
theorem ld_blt {E : Value → Shared → Prop} {pins : List (Addr × Obj)} {s : Shared} {σ : St} {H : Hp} {x : Str} {u : Value} {pos : Pos} {Q : Value → Shared → Prop} (I : Inv X pins σ H s) (hg : Gl X x) (hm : X.mg x = none) (hv : bootBuiltins x = some u) (h : Q u s)
    (hn : x ≠ "__name__" := by decide) (hd : (x == ("__debug__" : Str)) = false := by decide) : wpAny (model X.prog X.w) X.A (eval (.Name x pos) X.env) Q E s := by
  obtain ⟨mb, h1, h2⟩ := I.mod.blt
  exact Calls.Name_function_global I.ok.kind hg (Calls.loadGlobal_builtin (by rw [I.ok.glob]; exact I.mod.glob.keeps I.bk) hm (by rw [I.ok.blt]; exact h1.keeps I.bk) ((h2 x hn).trans hv) h) hd
/-- a module's constant, a class, a function, as a value -/
theorem pe_glob {x : Str} {v : V} {u : Value} {pos : Pos} (hg : Gl X x) (hm : X.mg x = some u) (r : RelV v u) (hd : (x == ("__debug__" : Str)) = false := by decide) : PE X (.Name x pos) (tC v) :=
  fun _ _ _ H _ I h => ld_glob I hg hm ⟨v, H, I, r, h⟩ hd
theorem pe_bltn {x : Str} {v : V} {u : Value} {pos : Pos} (hg : Gl X x) (hm : X.mg x = none) (hv : bootBuiltins x = some u) (r : RelV v u) (hn : x ≠ "__name__" := by decide) (hd : (x == ("__debug__" : Str)) = false := by decide) : PE X (.Name x pos) (tC v) :=
  fun _ _ _ H _ I h => ld_blt I hg hm hv ⟨v, H, I, r, h⟩ hn hd

variable {a b : Expr} {ta tb : TE} {pos : Pos}
/-- a comparison as a value, as a test -/
def tB (t : TE) : TT := fun σ H Q => t σ H fun x H1 => ∃ c, x = .bl c ∧ Q c H1
/-- an expression whose value is a bool, as a test -/
theorem pt_val {e : Expr} {t : TE} (h : PE X e t) (he : ∀ whole, isTrue e X.env whole = (do let v ← whole; standAt e.pos; holding [v] (truthy v)) := by intro _; rfl) : PT X e (tB t) := by
  intro pins s σ H Q I hw
  refine isTrue_plain (thn (h pins s σ H _ I hw) fun v s1 ⟨x, H1, I1, r1, q1⟩ => ?_) (he _)
  obtain ⟨d, rfl, q⟩ := q1
  cases r1
  exact wpAny_truthy_bool ⟨H1, I1, q⟩

variable {tA tB' : TT} {rest : List Expr}
def tAnd (t u : TT) : TT := fun σ H Q => t σ H fun c H1 => if c = true then u σ H1 Q else Q false H1
def tOr (t u : TT) : TT := fun σ H Q => t σ H fun c H1 => if c = true then Q true H1 else u σ H1 Q
def tNot (t : TT) : TT := fun σ H Q => t σ H fun c H1 => Q (!c) H1
theorem pw_and1 (ha : PT X a tA) : PW X (.BoolOp .And [a] pos) tA := by
  intro wh pins s σ H Q I h
  refine isTrue_and (thn (ha pins s σ H Q I h) fun c s1 e => ?_)
  cases c with
  | true => exact isTrue_and_nil e
  | false => exact e
theorem pw_or1 (ha : PT X a tA) : PW X (.BoolOp .Or [a] pos) tA := by
  intro wh pins s σ H Q I h
  refine isTrue_or (thn (ha pins s σ H Q I h) fun c s1 e => ?_)
  cases c with
  | false => exact isTrue_or_nil e
  | true => exact e
theorem pw_and (ha : PT X a tA) (hb : PW X (.BoolOp .And (b :: rest) pos) tB') : PW X (.BoolOp .And (a :: b :: rest) pos) (tAnd tA tB') := by
  intro wh pins s σ H Q I h
  refine isTrue_and (thn (ha pins s σ H _ I h) fun c s1 ⟨H1, I1, q1⟩ => ?_)
  cases c with
  | true => exact hb wh pins s1 σ H1 Q I1 q1
  | false => exact ⟨H1, I1, q1⟩
theorem pw_or (ha : PT X a tA) (hb : PW X (.BoolOp .Or (b :: rest) pos) tB') : PW X (.BoolOp .Or (a :: b :: rest) pos) (tOr tA tB') := by
  intro wh pins s σ H Q I h
  refine isTrue_or (thn (ha pins s σ H _ I h) fun c s1 ⟨H1, I1, q1⟩ => ?_)
  cases c with
  | true => exact ⟨H1, I1, q1⟩
  | false => exact hb wh pins s1 σ H1 Q I1 q1
theorem pt_not (ha : PT X a tA) : PT X (.UnaryOp .Not a pos) (tNot tA) := by
  intro pins s σ H Q I h
  exact isTrue_not (ha pins s σ H (fun c H1 => Q (!c) H1) I h)
/-- .. as values (bools) -/
def tAndV (ta tb : TE) : TE := fun σ H Q => ta σ H fun x H1 => ∃ c, x = .bl c ∧ if c = true then tb σ H1 Q else Q (.bl false) H1
def tOrV (ta tb : TE) : TE := fun σ H Q => ta σ H fun x H1 => ∃ c, x = .bl c ∧ if c = true then Q (.bl true) H1 else tb σ H1 Q
def tNotV (ta : TE) : TE := fun σ H Q => ta σ H fun x H1 => ∃ c, x = .bl c ∧ Q (.bl (!c)) H1
theorem pe_one {op} {t : TE} (h : PE X a t) : PE X (.BoolOp op [a] pos) t := fun pins s σ H Q I hw => BoolOp_one (h pins s σ H Q I hw)
theorem pe_and (ha : PE X a ta) (hb : PE X (.BoolOp .And (b :: rest) pos) tb) : PE X (.BoolOp .And (a :: b :: rest) pos) (tAndV ta tb) := by
  intro pins s σ H Q I h
  refine BoolOp_and (thn (ha pins s σ H _ I h) fun v s1 ⟨x, H1, I1, r1, q1⟩ => ?_)
  obtain ⟨c, rfl, q1⟩ := q1
  cases r1
  refine wpAny_truthy_bool ?_
  cases c with
  | true => exact hb pins s1 σ H1 Q I1 q1
  | false => exact ⟨.bl false, H1, I1, rfl, q1⟩
/-- a if t else b -/
def tIf (t : TT) (ta tb : TE) : TE := fun σ H Q => t σ H fun c H1 => if c = true then ta σ H1 Q else tb σ H1 Q
theorem pe_ifExp {c : Expr} (hc : PT X c tA) (ha : PE X a ta) (hb : PE X b tb) : PE X (.IfExp c a b pos) (tIf tA ta tb) := by
  intro pins s σ H Q I h
  refine wpAny_IfExp (thn (hc pins s σ H _ I h) fun d s1 ⟨H1, I1, q1⟩ => ?_)
  cases d with
  | true => exact ha pins s1 σ H1 Q I1 q1
  | false => exact hb pins s1 σ H1 Q I1 q1
end
end L2

namespace L2
open PySem PySem.Spec PyProof.Rows

def SqL (K : PySem.W.Frag) (H : Hp) (a : Addr) (xs : List V) : Prop :=
  Rd H a (.lst xs) ∨
    ∃ (o : Obj) (its : Array Value) (n : Nat), K.lookup a = some o ∧ o.cls = .type "list" ∧ o.dict = none ∧ o.data = .seq its n ∧ its.size ≤ sizeLine ∧ Vals xs its.toList
def SqT (K : PySem.W.Frag) (H : Hp) (a : Addr) (xs : List V) : Prop :=
  Rd H a (.tup xs) ∨
    ∃ (o : Obj) (its : Array Value) (n : Nat), K.lookup a = some o ∧ o.cls = .type "tuple" ∧ o.data = .seq its n ∧ its.size ≤ sizeLine ∧ Vals xs its.toList
def absV : Value → Option V
  | .none => some .non
  | .bool b => some (.bl b)
  | .int i _ => some (.int i)
  | .str x _ => some (.str x)
  | .bytes b _ => some (.byt b)
  | .float b _ => some (.flt b)
  | .ref a => some (.ref a)
  | .type n => some (.ty n)
  | _ => none
theorem RelV.abs {x : V} {u : Value} (r : RelV x u) : absV u = some x := by
  cases x with
  | non => cases r; rfl
  | bl _ => cases r; rfl
  | int _ => obtain ⟨t, rfl⟩ := r; rfl
  | str _ => obtain ⟨t, rfl⟩ := r; rfl
  | byt _ => obtain ⟨t, rfl⟩ := r; rfl
  | flt _ => obtain ⟨t, rfl⟩ := r; rfl
  | ref _ => cases r; rfl
  | ty _ => cases r; rfl
theorem RelV.inj {x y : V} {u : Value} (r : RelV x u) (q : RelV y u) : x = y := Option.some.inj (r.abs.symm.trans q.abs)
theorem Vals.inj : ∀ {xs ys : List V} {us : List Value}, Vals xs us → Vals ys us → xs = ys
  | _, _, _, .nil, .nil => rfl
  | _, _, _, .cons r t, .cons r' t' => by rw [r.inj r', Vals.inj t t']
section
variable {X : Cx} {pins : List (Addr × Obj)} {σ : St} {H : Hp} {s : Shared} {a : Addr} {xs ys : List V}
theorem SqL.of {K : PySem.W.Frag} (h : H a = some (.lst xs)) : SqL K H a xs := .inl (.inl h)
theorem SqT.of {K : PySem.W.Frag} (h : H a = some (.tup xs)) : SqT K H a xs := .inl (.inl h)
theorem Inv.list (I : Inv X pins σ H s) (h : SqL X.K H a xs) : ∃ its : List Value, Vals xs its ∧ PlainL s.heap a its.toArray ∧ xs.length ≤ sizeLine := by
  rcases h with h | ⟨o, its, n, hk, hc, hd, hs, hz, r⟩
  · obtain ⟨z, its, n, r, e⟩ := h.ok I.hok
    exact ⟨its, r, ⟨_, n, e, rfl, rfl, rfl⟩, z⟩
  · refine ⟨its.toList, r, ⟨o, n, I.kIn a o hk, hc, hd, by simpa using hs⟩, ?_⟩
    have e := r.length
    simp only [Array.length_toList] at e
    omega
theorem Inv.tuple (I : Inv X pins σ H s) (h : SqT X.K H a xs) : ∃ its : List Value, Vals xs its ∧ IsTup s.heap a its.toArray ∧ xs.length ≤ sizeLine := by
  rcases h with h | ⟨o, its, n, hk, hc, hs, hz, r⟩
  · obtain ⟨z, its, r, p⟩ := h.ok I.hok
    exact ⟨its, r, p, z⟩
  · refine ⟨its.toList, r, ⟨o, I.kIn a o hk, hc, n, by simpa using hs⟩, ?_⟩
    have e := r.length
    simp only [Array.length_toList] at e
    omega
theorem Inv.list_inj (I : Inv X pins σ H s) (h : SqL X.K H a xs) (h' : SqL X.K H a ys) : xs = ys := by
  obtain ⟨its, r, ⟨o, n, e, _, _, d⟩, _⟩ := I.list h
  obtain ⟨its', r', ⟨o', n', e', _, _, d'⟩, _⟩ := I.list h'
  rw [e] at e'; cases e'
  rw [d] at d'
  injection d' with d1 _
  have : its = its' := by simpa using congrArg Array.toList d1
  subst this
  exact r.inj r'
theorem Inv.tuple_inj (I : Inv X pins σ H s) (h : SqT X.K H a xs) (h' : SqT X.K H a ys) : xs = ys := by
  obtain ⟨its, r, ⟨o, e, _, n, d⟩, _⟩ := I.tuple h
  obtain ⟨its', r', ⟨o', e', _, n', d'⟩, _⟩ := I.tuple h'
  rw [e] at e'; cases e'
  rw [d] at d'
  injection d' with d1 _
  have : its = its' := by simpa using congrArg Array.toList d1
  subst this
  exact r.inj r'
end

abbrev Cx.wish (X : Cx) (E : Value → Shared → Prop) : Cx := { X with xe := E }
/-- no exception leaves -/
abbrev Cx.nox (X : Cx) : Cx := X.wish fun _ _ => False
theorem Cx.Ok.wish {X : Cx} (ok : X.Ok) (E : Value → Shared → Prop) : (X.wish E).Ok :=
  ⟨ok.mod, ok.kind, ok.glob, ok.blt, ok.above, ok.inj, ok.has, ok.cab, ok.hd, ok.frames, ok.stk, ok.exf, ok.bs, ok.bsz, ok.noex, ok.exfs, ok.funs, ok.frf⟩
theorem Cx.Ok.unwish {X : Cx} {E : Value → Shared → Prop} (ok : (X.wish E).Ok) : X.Ok :=
  ⟨ok.mod, ok.kind, ok.glob, ok.blt, ok.above, ok.inj, ok.has, ok.cab, ok.hd, ok.frames, ok.stk, ok.exf, ok.bs, ok.bsz, ok.noex, ok.exfs, ok.funs, ok.frf⟩
section
variable {X : Cx} {pins : List (Addr × Obj)} {σ : St} {H : Hp} {s : Shared} {E : Value → Shared → Prop}
theorem Inv.wish (I : Inv X pins σ H s) (E : Value → Shared → Prop) : Inv (X.wish E) pins σ H s := ⟨I.ok.wish E, I.os, I.bare, I.base, I.loc, I.cell, I.free, I.freeC, I.pin, I.hok, I.len, I.tk⟩
theorem Inv.unwish (I : Inv (X.wish E) pins σ H s) : Inv X pins σ H s := ⟨I.ok.unwish, I.os, I.bare, I.base, I.loc, I.cell, I.free, I.freeC, I.pin, I.hok, I.len, I.tk⟩
theorem SP.unwish {D : Ends} {f : Flow} {s' : Shared} (h : SP (X.wish E) pins D f s') : SP X pins D f s' := by
  cases f with
  | next => obtain ⟨σ', H', I, q⟩ := h; exact ⟨σ', H', I.unwish, q⟩
  | brk => obtain ⟨σ', H', I, q⟩ := h; exact ⟨σ', H', I.unwish, q⟩
  | cont => obtain ⟨σ', H', I, q⟩ := h; exact ⟨σ', H', I.unwish, q⟩
  | ret u => obtain ⟨v, σ', H', I, r, q⟩ := h; exact ⟨v, σ', H', I.unwish, r, q⟩
theorem PE.nox {e : Expr} {t : TE} (h : PE X.nox e t) : PE X e t := fun pins s σ H Q I hw =>
  wpAny_mono (h pins s σ H Q (I.wish _) hw) (fun _ _ ⟨v, H', I', r, q⟩ => ⟨v, H', I'.unwish, r, q⟩) fun _ _ z => False.elim z
theorem PT.nox {e : Expr} {t : TT} (h : PT X.nox e t) : PT X e t := fun pins s σ H Q I hw =>
  wpAny_mono (h pins s σ H Q (I.wish _) hw) (fun _ _ ⟨H', I', q⟩ => ⟨H', I'.unwish, q⟩) fun _ _ z => False.elim z
theorem PSs.nox {st : List Stmt} {t : TS} (h : PSs X.nox st t) : PSs X st t := fun pins s σ H D I hw =>
  wpAny_mono (h pins s σ H D (I.wish _) hw) (fun _ _ q => q.unwish) fun _ _ z => False.elim z
end

section
variable {X : Cx} {st : Stmt} {rest : List Stmt} {t u : TS} {e : Expr} {te : TE} {pos : Pos}
def tNext : TS := fun D σ H => D.nx σ H
def tSeq (t u : TS) : TS := fun D σ H => t { D with nx := u D } σ H
theorem pss_nil : PSs X [] tNext := fun _ _ σ H _ I h => wpAny_execs_nil ⟨σ, H, I, h⟩
theorem pss_cons (h1 : PS X st t) (h2 : PSs X rest u) : PSs X (st :: rest) (tSeq t u) := by
  intro pins s σ H D I h
  refine wpAny_execs_cons (thn (h1 pins s σ H { D with nx := u D } I h) fun f s1 q => ?_)
  cases f with
  | next =>
    obtain ⟨σ', H', I', q⟩ := q
    exact h2 pins s1 σ' H' D I' q
  | ret v => exact q
  | brk => exact q
  | cont => exact q
theorem pss_one (h1 : PS X st t) : PSs X [st] t := by
  intro pins s σ H D I h
  refine wpAny_execs_cons (thn (h1 pins s σ H D I h) fun f s1 q => ?_)
  cases f with
  | next => exact wpAny_execs_nil q
  | ret v => exact q
  | brk => exact q
  | cont => exact q
def tBreak : TS := fun D σ H => D.bk σ H
def tCont : TS := fun D σ H => D.ct σ H
/-- in a def's body nothing is shown -/
theorem Inv.quiet {pins : List (Addr × Obj)} {σ : St} {H : Hp} {s : Shared} (I : Inv X pins σ H s) : interactive X.env = false := by simp [interactive, I.ok.kind]
/-- an expression whose value is dropped -/
def tDrop (te : TE) : TS := fun D σ H => te σ H fun _ H1 => D.nx σ H1
theorem ps_expr (he : PE X e te) (hs : swapsWith e none pos.line X.env = pure false := by rfl) : PS X (.Expr e pos) (tDrop te) := by
  intro pins s σ H D I h
  exact wpAny_Expr_any (thn (he pins s σ H _ I h) fun v s1 ⟨x, H1, I1, r1, q1⟩ => ⟨σ, H1, I1, q1⟩) I.quiet hs
def tRet (te : TE) : TS := fun D σ H => te σ H D.rt
theorem ps_ret (he : PE X e te) : PS X (.Return (some e) pos) (tRet te) := by
  intro pins s σ H D I h
  exact wpAny_Return_some (thn (he pins s σ H _ I h) fun v s1 ⟨x, H1, I1, r1, q1⟩ => ⟨x, σ, H1, I1, r1, q1⟩)
def tRetN : TS := fun D _ H => D.rt .non H
def tIfS (c : TT) (t u : TS) : TS := fun D σ H => c σ H fun b H1 => if b = true then t D σ H1 else u D σ H1
theorem ps_if {c : Expr} {a b : List Stmt} {tc : TT} (hc : PT X c tc) (ha : PSs X a t) (hb : PSs X b u) : PS X (.If c a b pos) (tIfS tc t u) := by
  intro pins s σ H D I h
  refine wpAny_If (thn (hc pins s σ H _ I h) fun d s1 ⟨H1, I1, q1⟩ => ?_)
  cases d with
  | true => exact ha pins s1 σ H1 D I1 q1
  | false => exact hb pins s1 σ H1 D I1 q1
end

abbrev TG := V → St → Hp → (St → Hp → Prop) → Prop
abbrev TGs := List V → St → Hp → (St → Hp → Prop) → Prop
def PG (X : Cx) (target : Expr) (t : TG) : Prop :=
  ∀ (pins : List (Addr × Obj)) (s : Shared) (σ : St) (H : Hp) (v : V) (u : Value) (Q : St → Hp → Prop), Inv X pins σ H s → RelV v u → t v σ H Q →
    wpAny (model X.prog X.w) X.A (assign target X.env u) (fun _ s' => ∃ σ' H', Inv X pins σ' H' s' ∧ Q σ' H') X.xe s
/-- several targets, one after another -/
def PGs (X : Cx) (ts : List Expr) (t : TGs) : Prop :=
  ∀ (pins : List (Addr × Obj)) (s : Shared) (σ : St) (H : Hp) (vs : List V) (us : List Value) (Q : St → Hp → Prop), Inv X pins σ H s → Vals vs us → t vs σ H Q →
    wpAny (model X.prog X.w) X.A (assignInOrder ((assignEach ts X.env).map (·.2)) us) (fun _ s' => ∃ σ' H', Inv X pins σ' H' s' ∧ Q σ' H') X.xe s
/-- o[i] = v, by values -/
abbrev TSet := V → V → V → Hp → (Hp → Prop) → Prop
def PSet (X : Cx) (t : TSet) : Prop :=
  ∀ (pins : List (Addr × Obj)) (s : Shared) (σ : St) (H : Hp) (o i v : V) (ov iv u : Value) (Q : Hp → Prop), Inv X pins σ H s → RelV o ov → RelV i iv → RelV v u → t o i v H Q →
    wpAny (model X.prog X.w) X.A (setItem ov iv u) (fun _ s' => ∃ H', Inv X pins σ H' s' ∧ Q H') X.xe s
section
variable {X : Cx} {pos : Pos}
def gName (i : Nat) : TG := fun v σ H Q => Q (σ.set i (some v)) H
theorem pg_name {i : Nat} {x : Str} (hN : X.N.Nodup) (hi : X.N[i]? = some x) (hx : Loc X.env.scope x) (hf : X.fn x = true ∨ X.env.scope.names.lookup x = some .local := by first | exact .inl rfl | exact .inr rfl | assumption) : PG X (.Name x pos) (gName i) := by
  intro pins s σ H v u Q I r h
  exact wpAny_assign_Name (store_ok I hN hi hx r (fun s' I' => ⟨_, H, I', h⟩) hf)
def gNil : TGs := fun vs σ H Q => vs = [] ∧ Q σ H
def gCons (t : TG) (u : TGs) : TGs := fun vs σ H Q => ∃ v r, vs = v :: r ∧ t v σ H fun σ' H' => u r σ' H' Q
theorem pgs_nil : PGs X [] gNil := by
  intro pins s σ H vs us Q I r h
  obtain ⟨e, h⟩ := h
  subst e
  cases r
  exact assignInOrder_nil ⟨σ, H, I, h⟩
theorem pgs_cons {e : Expr} {es : List Expr} {t : TG} {u : TGs} (h1 : PG X e t) (h2 : PGs X es u)
    (hs : (assignEach (e :: es) X.env).map (·.2) = assign e X.env :: (assignEach es X.env).map (·.2) := by rfl) : PGs X (e :: es) (gCons t u) := by
  intro pins s σ H vs us Q I r h
  obtain ⟨v, vr, e1, h⟩ := h
  subst e1
  cases r with
  | cons r rr =>
    rw [hs]
    refine assignInOrder_cons (thn (h1 pins s σ H _ _ _ I r h) fun _ s1 ⟨σ1, H1, I1, q1⟩ => ?_)
    exact h2 pins s1 σ1 H1 _ _ Q I1 rr q1
/-- (a, b, ..) = a tuple of that length -/
def gTup (K : PySem.W.Frag) (n : Nat) (t : TGs) : TG := fun v σ H Q => ∃ a xs, v = .ref a ∧ SqT K H a xs ∧ xs.length = n ∧ t xs σ H Q
theorem pg_tup {es : List Expr} {k : Nat} {t : TGs} {n : Nat} (hc : X.calm = true) (h : PGs X es t)
    (hn : (assignEach es X.env).length = n := by rfl) (hst : (assignEach es X.env).findIdx? (·.1) = none := by rfl) : PG X (.Tuple es k pos) (gTup X.K n t) := by
  intro pins s σ H v u Q I r hw
  obtain ⟨a, xs, e1, hq, hl, hw⟩ := hw
  subst e1
  cases r
  obtain ⟨its, rv, ht, hz⟩ := I.tuple hq
  refine assign_Tuple_tuple (I.ok.hd hc) ht (by simp [hn, ← hl, rv.length]) hst fun h' hx => ?_
  have I1 : Inv X pins σ H { s with heap := h' } := I.kept (t' := s.toks) fun b o e => hx b o (Nat.ne_of_lt (Heap.lt_size e)) e
  exact h pins _ σ H xs _ Q I1 (by simpa using rv) hw
/-- o[i] = .. -/
def gSub (to ti : TE) (t : TSet) : TG := fun v σ H Q => to σ H fun o H1 => ti σ H1 fun i H2 => t o i v H2 fun H3 => Q σ H3
theorem pg_sub {o i : Expr} {to ti : TE} {t : TSet} (ho : PE X o to) (hi : PE X i ti) (hs : PSet X t)
    (ha : ∀ v, assign (.Subscript o i pos) X.env v = (do
      let ov ← holding [v] (eval o X.env)
      let iv ← holding [v, ov] (eval i X.env)
      standAt pos
      holding [v, ov, iv] (setItem ov iv v)
      release [v, ov, iv] []) := by intro _; rfl) : PG X (.Subscript o i pos) (gSub to ti t) := by
  intro pins s σ H v u Q I r h
  rw [ha]
  refine wpAny_bind (wpAny_holding (thn (ho pins s σ H _ I h) fun ov s1 ⟨x, H1, I1, r1, q1⟩ => ?_))
  refine wpAny_bind (wpAny_holding (thn (hi pins s1 σ H1 _ I1 q1) fun iv s2 ⟨y, H2, I2, r2, q2⟩ => ?_))
  refine wpAny_bind (wpAny_standAt (wpAny_bind (wpAny_holding (thn (hs pins s2 σ H2 x y v ov iv u _ I2 r1 r2 r q2) fun _ s3 ⟨H3, I3, q3⟩ => ?_))))
  exact wpAny_release ⟨σ, H3, I3, q3⟩
/-- target = value -/
def tAsg (te : TE) (g : TG) : TS := fun D σ H => te σ H fun x H1 => g x σ H1 D.nx
theorem ps_asg {tg e : Expr} {te : TE} {g : TG} (he : PE X e te) (hg : PG X tg g) (hs : swapsWithSole [tg] e pos.line X.env = pure false := by rfl) (hw : swappedStores [tg] e X.env = pure none := by rfl)
    (h1 : (assignEach [tg] X.env).map (·.2) = [assign tg X.env] := by rfl) : PS X (.Assign [tg] e pos) (tAsg te g) := by
  intro pins s σ H D I h
  refine wpAny_Assign_stores (thn (he pins s σ H _ I h) fun v s1 ⟨x, H1, I1, r1, q1⟩ => ?_) hs hw
  rw [h1]
  exact thn (hg pins s1 σ H1 x v _ I1 r1 q1) fun _ s2 q => q
/-- name = value -/
theorem ps_set {i : Nat} {x : Str} {e : Expr} {te : TE} {pos' : Pos} (hN : X.N.Nodup) (hi : X.N[i]? = some x) (hx : Loc X.env.scope x) (he : PE X e te) (hs : swapsWith e (some (.Name x pos')) pos.line X.env = pure false := by rfl) (hf : X.fn x = true ∨ X.env.scope.names.lookup x = some .local := by first | exact .inl rfl | exact .inr rfl | assumption) :
    PS X (.Assign [.Name x pos'] e pos) (tAsg te (gName i)) := by
  intro pins s σ H D I h
  refine wpAny_Assign_Name (thn (he pins s σ H _ I h) fun v s1 ⟨y, H1, I1, r1, q1⟩ => ?_) hs
  exact store_ok I1 hN hi hx r1 (fun s2 I2 => ⟨_, H1, I2, q1⟩) hf
end

section
variable {X : Cx} {pos : Pos}
/-- the invariant W with its measure -/
def tWhile (c : TT) (tb : TS) : TS := fun D σ H => ∃ W : Nat → St → Hp → Prop, (∃ m, W m σ H) ∧ ∀ m σ H, W m σ H →
  c σ H fun b H1 => if b = true then ∃ N : St → Hp → Prop, (∀ σ' H', N σ' H' → ∃ m', m' < m ∧ W m' σ' H') ∧ tb { D with nx := N, ct := N, bk := D.nx } σ H1 else D.nx σ H1
theorem ps_while {c : Expr} {body : List Stmt} {tc : TT} {tb : TS} (hp : PassesOwn (model X.prog X.w) X.A X.env X.xe) (hc : PT X c tc) (hb : PSs X body tb) : PS X (.While c body [] pos) (tWhile tc tb) := by
  intro pins s σ H D I h
  obtain ⟨W, ⟨m0, w0⟩, turn⟩ := h
  refine wpAny_While (codeAny_whileLoop (fun n s' => ∃ σ' H', Inv X pins σ' H' s' ∧ W n σ' H') ?_ m0 ⟨σ, H, I, w0⟩)
  rintro n s1 ⟨σ1, H1, I1, w1⟩
  refine wpAny_passesOwn hp (thn (hc pins s1 σ1 H1 _ I1 (turn n σ1 H1 w1)) fun b s2 ⟨H2, I2, q2⟩ => ?_)
  cases b with
  | true =>
    obtain ⟨N, hN, q2⟩ := q2
    rw [if_pos rfl]
    refine wpAny_passesOwn hp (thn (hb pins s2 σ1 H2 _ I2 q2) fun f s3 q3 => ?_)
    cases f with
    | next =>
      obtain ⟨σ3, H3, I3, n3⟩ := q3
      obtain ⟨m', hm, w3⟩ := hN σ3 H3 n3
      exact ⟨m', hm, σ3, H3, I3, w3⟩
    | cont =>
      obtain ⟨σ3, H3, I3, n3⟩ := q3
      obtain ⟨m', hm, w3⟩ := hN σ3 H3 n3
      exact ⟨m', hm, σ3, H3, I3, w3⟩
    | brk => exact q3
    | ret v => exact q3
  | false =>
    rw [if_neg Bool.false_ne_true]
    exact wpAny_execs_nil ⟨σ1, H2, I2, q2⟩
end

/-- at turn i: it yields x (the heap may grow), or it stops -/
structure It where
  go : Nat → Hp → Prop
  yld : Nat → Hp → V → Hp → Prop
  stop : Nat → Hp → Prop
/-- the iterator's own objects may turn: they are not the frame's, not pinned, younger than the entry (or a comprehension's own) -/
def FpOk (X : Cx) (pins : List (Addr × Obj)) (H : Hp) (b : Addr) : Prop :=
  H b = none ∧ b ≠ X.env.locals ∧ b ∉ X.fs ∧ (b ∈ X.ex ∨ X.s₀.heap.objs.size ≤ b) ∧ (∀ x c, X.env.cells.lookup x = some c → c ≠ b) ∧ ∀ p ∈ X.pn ++ pins, p.1 ≠ b
theorem Inv.fpOk {X : Cx} {pins : List (Addr × Obj)} {σ : St} {H H' : Hp} {s : Shared} {b : Addr} (I : Inv X pins σ H s) (hb : s.heap.objs.size ≤ b) (hn : H' b = none) : FpOk X pins H' b := by
  refine ⟨hn, Nat.ne_of_gt (Nat.lt_of_lt_of_le I.lt hb), I.nofs hb, .inr (Nat.le_trans I.sz hb), fun x c e z => ?_, fun p hp z => ?_⟩
  · obtain ⟨v, q⟩ := I.cell x c e
    exact absurd (Nat.lt_of_lt_of_le q.lt (by rw [z]; exact hb)) (Nat.lt_irrefl _)
  · exact absurd (Nat.lt_of_lt_of_le (Heap.lt_size (I.pin p hp).1) (by rw [z]; exact hb)) (Nat.lt_irrefl _)
structure Turn (P : Program) (w : World) (K : PySem.W.Frag) (tg : Expr) (J : It) (fp : List Addr) (it : Addr) (tn : Nat → Heap → Prop) : Prop where
  mem : it ∈ fp
  obj : ∀ i h, tn i h → ∀ b ∈ fp, ∃ o, h.get? b = some o ∧ ∀ v, o.data ≠ .cell v
  keep : ∀ i h h', tn i h → (∀ b ∈ fp, ∀ o, h.get? b = some o → h'.get? b = some o) → tn i h'
  item : ∀ (X : Cx), X.prog = P → X.w = w → X.K = K → X.calm = true → ∀ (i : Nat) (pins : List (Addr × Obj)) (s : Shared) (σ : St) (H : Hp) (E : Value → Shared → Prop), Inv X pins σ H s → (∀ b ∈ fp, FpOk X pins H b) → tn i s.heap → J.go i H →
    wpAny (model P w) X.A (pyNext (.ref it)) (fun r s1 => ∃ u, r = some u ∧
      wpAny (model P w) X.A (letOwnedTupleGo tg (.ref it) u) (fun _ s2 => ∃ x H', Inv X pins σ H' s2 ∧ RelV x u ∧ J.yld i H x H' ∧ tn (i + 1) s2.heap ∧ ∀ b ∈ fp, H' b = none) E s1) E s
  done : ∀ (X : Cx), X.prog = P → X.w = w → X.K = K → X.calm = true → ∀ (i : Nat) (pins : List (Addr × Obj)) (s : Shared) (σ : St) (H : Hp) (E : Value → Shared → Prop), Inv X pins σ H s → (∀ b ∈ fp, FpOk X pins H b) → tn i s.heap → J.stop i H →
    wpAny (model P w) X.A (pyNext (.ref it)) (fun r s1 => r = none ∧ Inv X pins σ H s1) E s
  self : ∀ (A : Around) (i : Nat) (s : Shared) (Q : Value → Shared → Prop) (E : Value → Shared → Prop), tn i s.heap → Q (.ref it) s → wpAny (model P w) A (pyIter (.ref it)) Q E s
abbrev TI := St → Hp → (It → Hp → Prop) → Prop
/-- an iterator has come -/
def PIE (X : Cx) (pins : List (Addr × Obj)) (σ : St) (tg : Expr) (R : It → Hp → Prop) (itv : Value) (s2 : Shared) : Prop :=
  ∃ (it : Addr) (fp : List Addr) (tn : Nat → Heap → Prop) (J : It) (H' : Hp), itv = .ref it ∧ Inv X pins σ H' s2 ∧ Turn X.prog X.w X.K tg J fp it tn ∧ tn 0 s2.heap ∧ (∀ b ∈ fp, FpOk X pins H' b) ∧ R J H'
def PI (X : Cx) (tg iter : Expr) (wi : TI) : Prop :=
  ∀ (pins : List (Addr × Obj)) (s : Shared) (σ : St) (H : Hp) (R : It → Hp → Prop), Inv X pins σ H s → wi σ H R →
    wpAny (model X.prog X.w) X.A (eval iter X.env) (fun v s1 => wpAny (model X.prog X.w) X.A (pyIter v) (PIE X pins σ tg R) X.xe s1) X.xe s

/-- the step ahead of the store is nothing for an iterator that keeps no tuple -/
theorem go_of {M : Model} {A : Around} {E : Value → Shared → Prop} {s : Shared} {tg : Expr} {it : Addr} {u : Value} {o : Obj} {n : String} {vs : Array Value} {Q : Unit → Shared → Prop} (ho : s.heap.get? it = some o) (hc : o.cls = .type n) (hd : o.data = .fields vs)
    (hn : ["enumerate", "zip", "dict_itemiterator", "dict_reverseitemiterator", "odict_iterator", "itertools.zip_longest", "itertools.pairwise"].contains n = false) (hQ : Q () s) : wpAny M A (letOwnedTupleGo tg (.ref it) u) Q E s := by
  unfold letOwnedTupleGo
  cases tg <;> first
    | exact wpAny_pure hQ
    | (cases u <;> first
        | exact wpAny_pure hQ
        | (refine wpAny_bind (wpAny_load ho ?_)
           rw [hc, hd]
           show wpAny M A (if (["enumerate", "zip", "dict_itemiterator", "dict_reverseitemiterator", "odict_iterator", "itertools.zip_longest", "itertools.pairwise"].contains n && vs[0]? == some (rawInt _)) = true then _ else _) Q E s
           rw [if_neg (by intro h; rw [hn, Bool.false_and] at h; cases h)]
           exact wpAny_pure hQ))

/-- the list at a, as it stands at each turn (a loop may append to it) -/
def Itl (K : PySem.W.Frag) (a : Addr) : It :=
  ⟨fun i H => ∃ xs x, SqL K H a xs ∧ xs[i]? = some x, fun i H x H' => H' = H ∧ ∀ xs, SqL K H a xs → xs[i]? = some x, fun i H => ∃ xs, SqL K H a xs ∧ xs.length ≤ i⟩
def Itt (K : PySem.W.Frag) (a : Addr) : It :=
  ⟨fun i H => ∃ xs x, SqT K H a xs ∧ xs[i]? = some x, fun i H x H' => H' = H ∧ ∀ xs, SqT K H a xs → xs[i]? = some x, fun i H => ∃ xs, SqT K H a xs ∧ xs.length ≤ i⟩
/-- lo, lo + 1, .. (n of them) -/
def Itr (lo : Int) (n : Nat) : It := ⟨fun i _ => i < n, fun i H x H' => H' = H ∧ x = .int (lo + i), fun i _ => n ≤ i⟩
theorem turn_list {P : Program} {w : World} {K : PySem.W.Frag} {tg : Expr} (a it : Addr) : Turn P w K tg (Itl K a) [it] it (fun i h => h.IsListIter it a i) where
  mem := by simp
  obj := fun i h st b hb => by
    have e : b = it := by simpa using hb
    subst e
    obtain ⟨o, e, c, d⟩ := st
    exact ⟨o, e, fun v z => by rw [d] at z; cases z⟩
  keep := fun i h h' st k => st.at fun o e => k it (by simp) o e
  item := by
    intro X hP hw hK hc i pins s σ H E I hf st hg
    subst hP hw hK
    obtain ⟨xs, x, hq, hx⟩ := hg
    obtain ⟨its, rv, p, hz⟩ := I.list hq
    obtain ⟨u, hu, ru⟩ := rv.get hx
    obtain ⟨f0, f1, f2, f3, f4, f5⟩ := hf it (by simp)
    refine wpAny_pyNext_list_item st p.isList (x := u) (by simpa using hu) fun h' st' sb => ?_
    have I1 : Inv X pins σ H { s with heap := h' } := I.turned (t' := s.toks) (fun b o hb e => (sb.2 b hb).trans e) f0 f1 f3 f4 f5
    obtain ⟨o, e, c, d⟩ := id st'
    exact ⟨u, rfl, go_of (s := { s with heap := h' }) e c d (by decide) ⟨x, H, I1, ru, ⟨rfl, fun ys hy => by rw [I.list_inj hy hq]; exact hx⟩, st', fun b hb => (hf b hb).1⟩⟩
  done := by
    intro X hP hw hK hc i pins s σ H E I hf st hg
    subst hP hw hK
    obtain ⟨xs, hq, hx⟩ := hg
    obtain ⟨its, rv, p, hz⟩ := I.list hq
    obtain ⟨f0, f1, f2, f3, f4, f5⟩ := hf it (by simp)
    have hl := rv.length
    exact wpAny_pyNext_list_end (I.ok.hd hc) st p.isList (by simp; omega) fun h' eb => ⟨rfl, I.turned (t' := s.toks) (fun b o hb e => eb b o hb e) f0 f1 f3 f4 f5⟩
  self := fun _ _ _ _ _ st h => wpAny_pyIter_listiter st h
theorem turn_tuple {P : Program} {w : World} {K : PySem.W.Frag} {tg : Expr} (a it : Addr) : Turn P w K tg (Itt K a) [it] it (fun i h => h.IsTupleIter it a i) where
  mem := by simp
  obj := fun i h st b hb => by
    have e : b = it := by simpa using hb
    subst e
    obtain ⟨o, e, c, d⟩ := st
    exact ⟨o, e, fun v z => by rw [d] at z; cases z⟩
  keep := fun i h h' st k => st.at fun o e => k it (by simp) o e
  item := by
    intro X hP hw hK hc i pins s σ H E I hf st hg
    subst hP hw hK
    obtain ⟨xs, x, hq, hx⟩ := hg
    obtain ⟨its, rv, p, hz⟩ := I.tuple hq
    obtain ⟨u, hu, ru⟩ := rv.get hx
    obtain ⟨f0, f1, f2, f3, f4, f5⟩ := hf it (by simp)
    refine wpAny_pyNext_tuple_item st (show s.heap.IsTuple a its.toArray from p) (x := u) (by simpa using hu) fun h' st' sb => ?_
    have I1 : Inv X pins σ H { s with heap := h' } := I.turned (t' := s.toks) (fun b o hb e => (sb.2 b hb).trans e) f0 f1 f3 f4 f5
    obtain ⟨o, e, c, d⟩ := id st'
    exact ⟨u, rfl, go_of (s := { s with heap := h' }) e c d (by decide) ⟨x, H, I1, ru, ⟨rfl, fun ys hy => by rw [I.tuple_inj hy hq]; exact hx⟩, st', fun b hb => (hf b hb).1⟩⟩
  done := by
    intro X hP hw hK hc i pins s σ H E I hf st hg
    subst hP hw hK
    obtain ⟨xs, hq, hx⟩ := hg
    obtain ⟨its, rv, p, hz⟩ := I.tuple hq
    obtain ⟨f0, f1, f2, f3, f4, f5⟩ := hf it (by simp)
    have hl := rv.length
    exact wpAny_pyNext_tuple_end (I.ok.hd hc) st (show s.heap.IsTuple a its.toArray from p) (by simp; omega) fun h' eb => ⟨rfl, I.turned (t' := s.toks) (fun b o hb e => eb b o hb e) f0 f1 f3 f4 f5⟩
  self := fun _ _ _ _ _ st h => wpAny_pyIter_tupleiter st h
theorem turn_range {P : Program} {w : World} {K : PySem.W.Frag} {tg : Expr} (it : Addr) (lo : Int) (n : Nat) : Turn P w K tg (Itr lo n) [it] it (fun i h => IsRangeIter h it (lo + (i : Nat) * 1) ((n : Int) - (i : Nat)) 1) where
  mem := by simp
  obj := fun i h st b hb => by
    have e : b = it := by simpa using hb
    subst e
    exact ⟨_, st, fun v z => by
      have z' : Data.fields _ = Data.cell v := z
      cases z'⟩
  keep := fun i h h' st k => k it (by simp) _ st
  item := by
    intro X hP hw hK hc i pins s σ H E I hf st hg
    subst hP hw hK
    obtain ⟨f0, f1, f2, f3, f4, f5⟩ := hf it (by simp)
    have W := Walks.range (prog := X.prog) (w := X.w) (I.ok.hd hc) it lo 1 n
    refine wpAny_with_toks (n := 1) I.tk (W.item i s _ _ hg st fun v h' tk hv st' kk ht => ?_)
    have ht : 0 < tk := ht
    obtain ⟨t, rfl⟩ := hv
    have I1 : Inv X pins σ H { s with heap := h', toks := tk } := I.turned (fun b o hb e => kk b o (by simpa using hb) e) f0 f1 f3 f4 f5
    refine ⟨_, rfl, go_of (s := { s with heap := h', toks := tk }) (n := "range_iterator") st' rfl rfl (by decide) ⟨.int (lo + i), H, I1, ⟨t, ?_⟩, ⟨rfl, rfl⟩, st', fun b hb => (hf b hb).1⟩⟩
    rw [Int.mul_one]
  done := by
    intro X hP hw hK hc i pins s σ H E I hf st hg
    subst hP hw hK
    obtain ⟨f0, f1, f2, f3, f4, f5⟩ := hf it (by simp)
    exact wpAny_pyNext_range_end (I.ok.hd hc) st (by have : n ≤ i := hg; omega) fun h' eb => ⟨rfl, I.turned (t' := s.toks) (fun b o hb e => eb b o hb e) f0 f1 f3 f4 f5⟩
  self := fun _ _ _ _ _ st h => wpAny_pyIter_rangeiter st h
end L2

namespace L2
open PySem PySem.Spec PyProof.Rows
section
variable {X : Cx} {tg : Expr}
/-- a range object just made, walked -/
theorem range_it {pins : List (Addr × Obj)} {σ : St} {H : Hp} {s : Shared} {R : It → Hp → Prop} {E : Value → Shared → Prop} {lo hi : Int} {t u v : Tok} {tk : Nat} (I : Inv X pins σ H s) (h1 : -(2 ^ 62) ≤ lo) (h2 : lo < 2 ^ 62) (h3 : -(2 ^ 62) ≤ hi) (h4 : hi < 2 ^ 62)
    (q : R (Itr lo (hi - lo).toNat) H) (ht : 0 < tk := by first | exact Nat.succ_pos _ | assumption | exact Inv.tk ‹_› | omega) : wpAny (model X.prog X.w) X.A (pyIter (.ref s.heap.objs.size)) (PIE X pins σ tg R) E { s with heap := s.heap.push { cls := .type "range", data := .fields #[.int lo t, .int hi u, .int 1 v] }, toks := tk } := by
  refine wpAny_pyIter_range (IsRange.new ..) (small_one h1 h2 h3 h4) ?_
  have I1 : Inv X pins σ H { s with heap := s.heap.push { cls := .type "range", data := .fields #[.int lo t, .int hi u, .int 1 v] }, toks := tk } := I.kept fun b o e => Heap.get?_push_of_some _ e
  refine ⟨(s.heap.push { cls := .type "range", data := .fields #[.int lo t, .int hi u, .int 1 v] }).objs.size, [(s.heap.push { cls := .type "range", data := .fields #[.int lo t, .int hi u, .int 1 v] }).objs.size], _, _, H, rfl,
    I1.kept (t' := tk) fun b o e => Heap.get?_push_of_some _ e, turn_range _ lo (hi - lo).toNat, ?_, fun b hb => ?_, q⟩
  · have e1 : lo + ((0 : Nat) : Int) * 1 = lo := by simp
    have e2 : (((hi - lo).toNat : Nat) : Int) - ((0 : Nat) : Int) = Builtin.Range.rangeSize lo hi 1 := by rw [rangeSize_one]; split <;> omega
    show IsRangeIter _ _ (lo + ((0 : Nat) : Int) * 1) ((((hi - lo).toNat : Nat) : Int) - ((0 : Nat) : Int)) 1
    rw [e1, e2]
    exact Heap.get?_push_size _ rfl
  · have e : b = (s.heap.push { cls := .type "range", data := .fields #[.int lo t, .int hi u, .int 1 v] }).objs.size := by simpa using hb
    subst e
    exact I1.fpOk (Nat.le_refl _) (I1.hok.fresh (Nat.le_refl _))
def iRng1 (ta : TA) : TI := fun σ H R => ta σ H fun vs H1 => ∃ j : Int, vs = [.int j] ∧ -(2 ^ 62) ≤ j ∧ j < 2 ^ 62 ∧ R (Itr 0 j.toNat) H1
def iRng2 (ta : TA) : TI := fun σ H R => ta σ H fun vs H1 => ∃ i j : Int, vs = [.int i, .int j] ∧ (-(2 ^ 62) ≤ i ∧ i < 2 ^ 62 ∧ -(2 ^ 62) ≤ j ∧ j < 2 ^ 62) ∧ R (Itr i (j - i).toNat) H1
theorem pi_range1 {a : Expr} {ta : TA} {p pos : Pos} (hg : Gl X "range") (hm : X.mg "range" = none) (ha : PA X [a] ta) (hs : starEach [a] X.env = [(false, eval a X.env)] := by rfl) : PI X tg (.Call (.Name "range" p) [a] [] pos) (iRng1 ta) := by
  intro pins s σ H R I h
  refine Call_ (ld_blt I hg hm boot_range (PyProof.Rows.callWith_type1 (thn (ha pos pins s σ H _ I h) fun us s1 ⟨vs, H1, I1, r1, q1⟩ => ?_) hs rfl))
  obtain ⟨j, e, q1, q2, q⟩ := q1
  subst e
  cases r1 with
  | cons r rr =>
    cases rr
    obtain ⟨t, rfl⟩ := r
    exact call_range_1 (range_it I1 (by omega) (by omega) q1 q2 (by simpa using q))
theorem pi_range2 {a b : Expr} {ta : TA} {p pos : Pos} (hg : Gl X "range") (hm : X.mg "range" = none) (ha : PA X [a, b] ta) (hs : starEach [a, b] X.env = [(false, eval a X.env), (false, eval b X.env)] := by rfl) (hs2 : starEach [b] X.env = [(false, eval b X.env)] := by rfl) :
    PI X tg (.Call (.Name "range" p) [a, b] [] pos) (iRng2 ta) := by
  intro pins s σ H R I h
  refine Call_ (ld_blt I hg hm boot_range (PyProof.Rows.callWith_type1 (thn (ha pos pins s σ H _ I h) fun us s1 ⟨vs, H1, I1, r1, q1⟩ => ?_) (by rw [hs, hs2]) (by rw [hs2]; rfl)))
  obtain ⟨i, j, e, ⟨q1, q2, q3, q4⟩, q⟩ := q1
  subst e
  cases r1 with
  | cons r rr =>
    cases rr with
    | cons r' rr =>
      cases rr
      obtain ⟨t, rfl⟩ := r
      obtain ⟨t', rfl⟩ := r'
      exact call_range_2 (range_it I1 q1 q2 q3 q4 q)

/-- W: the invariant by the turn and a measure; N: what the body is to reach -/
def tFor (wi : TI) (g : TG) (tb : TS) : TS := fun D σ H => wi σ H fun J H1 => ∃ W : Nat → Nat → St → Hp → Prop, (∃ m, W 0 m σ H1) ∧ ∀ i m σ H, W i m σ H →
  (J.stop i H ∧ D.nx σ H) ∨ (J.go i H ∧ ∃ N : St → Hp → Prop, (∀ σ' H', N σ' H' → ∃ m', m' < m ∧ W (i + 1) m' σ' H') ∧ ∀ x H', J.yld i H x H' → g x σ H' fun σ2 H2 => tb { D with nx := N, ct := N, bk := D.nx } σ2 H2)
/-- the records at fp as they stand -/
def pinsAt (fp : List Addr) (h : Heap) : List (Addr × Obj) := fp.filterMap fun b => (h.get? b).map fun o => (b, o)
theorem mem_pinsAt {fp : List Addr} {h : Heap} {b : Addr} {o : Obj} (hb : b ∈ fp) (e : h.get? b = some o) : (b, o) ∈ pinsAt fp h := List.mem_filterMap.mpr ⟨b, hb, by rw [e]; rfl⟩
theorem of_pinsAt {fp : List Addr} {h : Heap} {p : Addr × Obj} (hp : p ∈ pinsAt fp h) : p.1 ∈ fp ∧ h.get? p.1 = some p.2 := by
  obtain ⟨b, hb, e⟩ := List.mem_filterMap.mp hp
  cases q : h.get? b with
  | none => rw [q] at e; cases e
  | some o =>
    rw [q] at e
    have e' : (b, o) = p := Option.some.inj e
    subst e'
    exact ⟨hb, q⟩
theorem Inv.pinned {pins : List (Addr × Obj)} {σ : St} {H : Hp} {s : Shared} {fp : List Addr} (I : Inv X pins σ H s) (hf : ∀ b ∈ fp, FpOk X pins H b) (ho : ∀ b ∈ fp, ∃ o, s.heap.get? b = some o ∧ ∀ v, o.data ≠ .cell v) : Inv X (pins ++ pinsAt fp s.heap) σ H s :=
  I.pins_of fun p hp => (List.mem_append.mp hp).elim (fun z => I.pin p (List.mem_append_right _ z)) fun z => by
    obtain ⟨hb, e⟩ := of_pinsAt z
    obtain ⟨f0, f1, f2, _⟩ := hf p.1 hb
    obtain ⟨o, e', d⟩ := ho p.1 hb
    rw [e] at e'; cases e'
    exact ⟨e, f0, f1, f2, d⟩
theorem Inv.unpinned {pins pl : List (Addr × Obj)} {σ : St} {H : Hp} {s : Shared} (I : Inv X (pins ++ pl) σ H s) : Inv X pins σ H s := I.pins_of fun p hp => I.pin p (List.mem_append_right _ (List.mem_append_left _ hp))
theorem ps_for {iter : Expr} {body : List Stmt} {wi : TI} {g : TG} {tb : TS} {pos : Pos} (hp : PassesOwn (model X.prog X.w) X.A X.env X.xe) (hc : X.calm = true) (hi : PI X tg iter wi) (hg : PG X tg g) (hb : PSs X body tb)
    (hs : ∀ x, foldedSetIterable iter X.env x = pure x := by intro _; rfl) : PS X (.For tg iter body [] pos) (tFor wi g tb) := by
  intro pins s σ H D I h
  refine wpAny_For (thn (hi pins s σ H _ I h) fun v s1 h1 => thn h1 fun itv s2 h2 => ?_) hs
  obtain ⟨it, fp, tn, J, H2, e, I2, T, st2, f2, W, ⟨m0, w0⟩, turn⟩ := h2
  subst e
  -- what stays true of the iterator's objects through the loop
  have stat : ∀ {H' : Hp}, (∀ b ∈ fp, H' b = none) → ∀ b ∈ fp, FpOk X pins H' b := fun hn b hb => ⟨hn b hb, (f2 b hb).2⟩
  refine codeAny_forLoop_any (fun n s' => ∃ i σ' H', Inv X pins σ' H' s' ∧ tn i s'.heap ∧ (∀ b ∈ fp, H' b = none) ∧ W i n σ' H') ?_ m0 ⟨0, σ, H2, I2, st2, fun b hb => (f2 b hb).1, w0⟩
  rintro n s3 ⟨i, σ3, H3, I3, st3, fr3, w3⟩
  rcases turn i n σ3 H3 w3 with ⟨stop, qn⟩ | ⟨go, N, hN, step⟩
  · refine wpAny_passesOwn hp (thn (T.done X rfl rfl rfl hc i pins s3 σ3 H3 X.xe I3 (stat fr3) st3 stop) fun r s4 ⟨hr, I4⟩ => ?_)
    subst hr
    exact wpAny_execs_nil ⟨σ3, H3, I4, qn⟩
  · refine wpAny_passesOwn hp (thn (T.item X rfl rfl rfl hc i pins s3 σ3 H3 X.xe I3 (stat fr3) st3 go) fun r s4 ⟨u, hr, h4⟩ => ?_)
    subst hr
    refine wpAny_passesOwn hp (thn h4 fun _ s5 ⟨x, H5, I5, r5, y5, st5, fr5⟩ => ?_)
    have I5' := I5.pinned (stat fr5) (T.obj _ _ st5)
    refine wpAny_passesOwn hp (thn (hg _ s5 σ3 H5 x u _ I5' r5 (step x H5 y5)) fun _ s6 ⟨σ6, H6, I6, q6⟩ => ?_)
    refine wpAny_passesOwn hp (thn (hb _ s6 σ6 H6 _ I6 q6) fun f s7 q7 => ?_)
    have again : ∀ {σ7 : St} {H7 : Hp}, Inv X (pins ++ pinsAt fp s5.heap) σ7 H7 s7 → N σ7 H7 → ∃ m, m < n ∧ ∃ i σ' H', Inv X pins σ' H' s7 ∧ tn i s7.heap ∧ (∀ b ∈ fp, H' b = none) ∧ W i m σ' H' := fun {σ7 H7} I7 n7 => by
      obtain ⟨m', hm, w7⟩ := hN σ7 H7 n7
      refine ⟨m', hm, i + 1, σ7, H7, I7.unpinned, T.keep _ _ _ st5 fun b hb o e => (I7.pin (b, o) (List.mem_append_right _ (List.mem_append_right _ (mem_pinsAt hb e)))).1, fun b hb => ?_, w7⟩
      obtain ⟨o, e, d⟩ := T.obj _ _ st5 b hb
      exact (I7.pin (b, o) (List.mem_append_right _ (List.mem_append_right _ (mem_pinsAt hb e)))).2.1
    cases f with
    | next => obtain ⟨σ7, H7, I7, n7⟩ := q7; exact again I7 n7
    | cont => obtain ⟨σ7, H7, I7, n7⟩ := q7; exact again I7 n7
    | brk => obtain ⟨σ7, H7, I7, q7⟩ := q7; exact ⟨σ7, H7, I7.unpinned, q7⟩
    | ret v => obtain ⟨x7, σ7, H7, I7, r7, q7⟩ := q7; exact ⟨x7, σ7, H7, I7.unpinned, r7, q7⟩
end

/-- over a list that the body leaves as it is -/
theorem for_list {K : PySem.W.Frag} {a : Addr} {xs : List V} {g : TG} {tb : TS} {D : Ends} {σ : St} {H : Hp} (Pv : Nat → St → Hp → Prop) (h0 : Pv 0 σ H) (hl : ∀ i σ H, i ≤ xs.length → Pv i σ H → SqL K H a xs)
    (hs : ∀ i x σ H, xs[i]? = some x → Pv i σ H → g x σ H fun σ2 H2 => tb { D with nx := Pv (i + 1), ct := Pv (i + 1), bk := D.nx } σ2 H2) (hd : ∀ σ H, Pv xs.length σ H → D.nx σ H) :
    ∃ W : Nat → Nat → St → Hp → Prop, (∃ m, W 0 m σ H) ∧ ∀ i m σ H, W i m σ H →
      ((Itl K a).stop i H ∧ D.nx σ H) ∨ ((Itl K a).go i H ∧ ∃ N : St → Hp → Prop, (∀ σ' H', N σ' H' → ∃ m', m' < m ∧ W (i + 1) m' σ' H') ∧ ∀ x H', (Itl K a).yld i H x H' → g x σ H' fun σ2 H2 => tb { D with nx := N, ct := N, bk := D.nx } σ2 H2) := by
  refine ⟨fun i m σ H => m = xs.length - i ∧ i ≤ xs.length ∧ Pv i σ H, ⟨xs.length, by simp, Nat.zero_le _, h0⟩, ?_⟩
  rintro i m σ H ⟨rfl, hi, p⟩
  have q := hl i σ H hi p
  by_cases hlt : i < xs.length
  · refine .inr ⟨⟨xs, xs[i], q, by simp [hlt]⟩, Pv (i + 1), fun σ' H' p' => ⟨xs.length - (i + 1), by omega, rfl, hlt, p'⟩, fun x H' y => ?_⟩
    obtain ⟨e, y⟩ := y
    subst e
    exact hs i x σ _ (y xs q) p
  · have e : i = xs.length := by omega
    subst e
    exact .inl ⟨⟨xs, q, Nat.le_refl _⟩, hd σ H p⟩
theorem for_tup {K : PySem.W.Frag} {a : Addr} {xs : List V} {g : TG} {tb : TS} {D : Ends} {σ : St} {H : Hp} (Pv : Nat → St → Hp → Prop) (h0 : Pv 0 σ H) (hl : ∀ i σ H, i ≤ xs.length → Pv i σ H → SqT K H a xs)
    (hs : ∀ i x σ H, xs[i]? = some x → Pv i σ H → g x σ H fun σ2 H2 => tb { D with nx := Pv (i + 1), ct := Pv (i + 1), bk := D.nx } σ2 H2) (hd : ∀ σ H, Pv xs.length σ H → D.nx σ H) :
    ∃ W : Nat → Nat → St → Hp → Prop, (∃ m, W 0 m σ H) ∧ ∀ i m σ H, W i m σ H →
      ((Itt K a).stop i H ∧ D.nx σ H) ∨ ((Itt K a).go i H ∧ ∃ N : St → Hp → Prop, (∀ σ' H', N σ' H' → ∃ m', m' < m ∧ W (i + 1) m' σ' H') ∧ ∀ x H', (Itt K a).yld i H x H' → g x σ H' fun σ2 H2 => tb { D with nx := N, ct := N, bk := D.nx } σ2 H2) := by
  refine ⟨fun i m σ H => m = xs.length - i ∧ i ≤ xs.length ∧ Pv i σ H, ⟨xs.length, by simp, Nat.zero_le _, h0⟩, ?_⟩
  rintro i m σ H ⟨rfl, hi, p⟩
  have q := hl i σ H hi p
  by_cases hlt : i < xs.length
  · refine .inr ⟨⟨xs, xs[i], q, by simp [hlt]⟩, Pv (i + 1), fun σ' H' p' => ⟨xs.length - (i + 1), by omega, rfl, hlt, p'⟩, fun x H' y => ?_⟩
    obtain ⟨e, y⟩ := y
    subst e
    exact hs i x σ _ (y xs q) p
  · have e : i = xs.length := by omega
    subst e
    exact .inl ⟨⟨xs, q, Nat.le_refl _⟩, hd σ H p⟩
theorem for_range {lo : Int} {n : Nat} {g : TG} {tb : TS} {D : Ends} {σ : St} {H : Hp} (Pv : Nat → St → Hp → Prop) (h0 : Pv 0 σ H)
    (hs : ∀ i σ H, i < n → Pv i σ H → g (.int (lo + i)) σ H fun σ2 H2 => tb { D with nx := Pv (i + 1), ct := Pv (i + 1), bk := D.nx } σ2 H2) (hd : ∀ σ H, Pv n σ H → D.nx σ H) :
    ∃ W : Nat → Nat → St → Hp → Prop, (∃ m, W 0 m σ H) ∧ ∀ i m σ H, W i m σ H →
      ((Itr lo n).stop i H ∧ D.nx σ H) ∨ ((Itr lo n).go i H ∧ ∃ N : St → Hp → Prop, (∀ σ' H', N σ' H' → ∃ m', m' < m ∧ W (i + 1) m' σ' H') ∧ ∀ x H', (Itr lo n).yld i H x H' → g x σ H' fun σ2 H2 => tb { D with nx := N, ct := N, bk := D.nx } σ2 H2) := by
  refine ⟨fun i m σ H => m = n - i ∧ i ≤ n ∧ Pv i σ H, ⟨n, by simp, Nat.zero_le _, h0⟩, ?_⟩
  rintro i m σ H ⟨rfl, hi, p⟩
  by_cases hlt : i < n
  · refine .inr ⟨hlt, Pv (i + 1), fun σ' H' p' => ⟨n - (i + 1), by omega, rfl, hlt, p'⟩, fun x H' y => ?_⟩
    obtain ⟨e, y⟩ := y
    subst e y
    exact hs i σ _ hlt p
  · have e : i = n := by omega
    subst e
    exact .inl ⟨Nat.le_refl _, hd σ H p⟩
/-- while, by a word and a measure of the state -/
theorem while_by {c : TT} {tb : TS} {D : Ends} {σ : St} {H : Hp} (Pv : St → Hp → Prop) (μ : St → Hp → Nat) (h0 : Pv σ H)
    (hs : ∀ σ H, Pv σ H → c σ H fun b H1 => if b = true then tb { D with nx := fun σ' H' => Pv σ' H' ∧ μ σ' H' < μ σ H, ct := fun σ' H' => Pv σ' H' ∧ μ σ' H' < μ σ H, bk := D.nx } σ H1 else D.nx σ H1)
    (mono : ∀ σ H Q Q', (∀ b H1, Q b H1 → Q' b H1) → c σ H Q → c σ H Q') : tWhile c tb D σ H := by
  refine ⟨fun m σ H => m = μ σ H ∧ Pv σ H, ⟨_, rfl, h0⟩, ?_⟩
  rintro m σ H ⟨rfl, p⟩
  refine mono σ H _ _ (fun b H1 q => ?_) (hs σ H p)
  cases b with
  | true => exact ⟨_, fun σ' H' ⟨p', l⟩ => ⟨_, l, rfl, p'⟩, q⟩
  | false => exact q
end L2

namespace L2
open PySem PySem.Spec PyProof.Rows

abbrev R2 := V → V → Hp → VK → Prop
/-- a two-place operation on values: f is binaryOp op, inplaceOp op or compareOp op -/
def OpR (X : Cx) (f : Value → Value → Sem Value) (r : R2) : Prop :=
  ∀ (pins : List (Addr × Obj)) (s : Shared) (σ : St) (H : Hp) (x y : V) (v u : Value) (Q : VK), Inv X pins σ H s → RelV x v → RelV y u → r x y H Q →
    wpAny (model X.prog X.w) X.A (f v u) (EP X pins σ Q) X.xe s
/-- a one-place operation -/
def UnR (X : Cx) (f : Value → Sem Value) (r : V → Hp → VK → Prop) : Prop :=
  ∀ (pins : List (Addr × Obj)) (s : Shared) (σ : St) (H : Hp) (x : V) (v : Value) (Q : VK), Inv X pins σ H s → RelV x v → r x H Q →
    wpAny (model X.prog X.w) X.A (f v) (EP X pins σ Q) X.xe s
/-- a call of a value that is known (a builtin, a type) with values -/
def CallR (X : Cx) (f : Value) (r : List V → Hp → VK → Prop) : Prop :=
  ∀ (pins : List (Addr × Obj)) (s : Shared) (σ : St) (H : Hp) (xs : List V) (us : List Value) (Q : VK), Inv X pins σ H s → Vals xs us → r xs H Q →
    wpAny (model X.prog X.w) X.A (call f us) (EP X pins σ Q) X.xe s
def tOp (r : R2) (ta tb : TE) : TE := fun σ H Q => ta σ H fun x H1 => tb σ H1 fun y H2 => r x y H2 Q
def tUn (r : V → Hp → VK → Prop) (ta : TE) : TE := fun σ H Q => ta σ H fun x H1 => r x H1 Q
/-- ints in, under C, and a value out -/
def rI (C : Int → Int → Prop) (g : Int → Int → V) : R2 := fun x y H Q => ∃ i j, x = .int i ∧ y = .int j ∧ C i j ∧ Q (g i j) H
def rI0 (g : Int → Int → V) : R2 := fun x y H Q => ∃ i j, x = .int i ∧ y = .int j ∧ Q (g i j) H
def rU (g : Int → V) : V → Hp → VK → Prop := fun x H Q => ∃ i, x = .int i ∧ Q (g i) H

section
variable {X : Cx} {a b c : Expr} {ta tb tc : TE} {pos : Pos}

theorem binT (ha : PE X a ta) (hb : PE X b tb) {pins : List (Addr × Obj)} {s : Shared} {σ : St} {H : Hp} {R : V → V → Hp → Prop} (I : Inv X pins σ H s)
    (h : ta σ H fun x H1 => tb σ H1 fun y H2 => R x y H2) {Q : Value → Shared → Prop} {f : Value → Value → Sem Value}
    (hf : ∀ v u s2 x y H2, Inv X pins σ H2 s2 → RelV x v → RelV y u → R x y H2 → wpAny (model X.prog X.w) X.A (f v u) Q X.xe s2) :
    wpAny (model X.prog X.w) X.A (eval a X.env) (fun v s₁ => wpAny (model X.prog X.w) X.A (eval b X.env) (fun u s₂ => wpAny (model X.prog X.w) X.A (f v u) Q X.xe s₂) X.xe s₁) X.xe s := by
  refine thn (ha pins s σ H _ I h) fun v s1 ⟨x, H1, I1, r1, q1⟩ => ?_
  refine thn (hb pins s1 σ H1 _ I1 q1) fun u s2 ⟨y, H2, I2, r2, q2⟩ => ?_
  exact hf v u s2 x y H2 I2 r1 r2 q2

theorem pe_op {op : Operator} {r : R2} (ho : OpR X (binaryOp op) r) (ha : PE X a ta) (hb : PE X b tb) : PE X (.BinOp a op b pos) (tOp r ta tb) := by
  intro pins s σ H Q I h
  exact wpAny_BinOp (binT ha hb I h fun v u s2 x y H2 I2 rx ry q => ho pins s2 σ H2 x y v u Q I2 rx ry q)
theorem pe_un {op : UnaryOp} {r : V → Hp → VK → Prop} (ho : UnR X (unaryOp op) r) (ha : PE X a ta) : PE X (.UnaryOp op a pos) (tUn r ta) := by
  intro pins s σ H Q I h
  exact UnaryOp_ (thn (ha pins s σ H _ I h) fun v s1 ⟨x, H1, I1, r1, q1⟩ => ho pins s1 σ H1 x v Q I1 r1 q1)
theorem opI {f : Value → Value → Sem Value} {C : Int → Int → Prop} {g : Int → Int → Int}
    (rule : ∀ (i j : Int) (t u : Tok) (s : Shared) (Q : Value → Shared → Prop) (E : Value → Shared → Prop), C i j → Q (.int (g i j) s.toks) { s with toks := s.toks + 1 } → wpAny (model X.prog X.w) X.A (f (.int i t) (.int j u)) Q E s) :
    OpR X f (rI C fun i j => .int (g i j)) := by
  intro pins s σ H x y v u Q I rx ry h
  obtain ⟨i, j, rfl, rfl, hc, q⟩ := h
  obtain ⟨t, rfl⟩ := rx
  obtain ⟨t', rfl⟩ := ry
  exact rule i j t t' s _ _ hc ⟨.int (g i j), H, I.tok _, ⟨_, rfl⟩, q⟩
theorem opI0 {f : Value → Value → Sem Value} {g : Int → Int → Int}
    (rule : ∀ (i j : Int) (t u : Tok) (s : Shared) (Q : Value → Shared → Prop) (E : Value → Shared → Prop), Q (.int (g i j) s.toks) { s with toks := s.toks + 1 } → wpAny (model X.prog X.w) X.A (f (.int i t) (.int j u)) Q E s) :
    OpR X f (rI0 fun i j => .int (g i j)) := by
  intro pins s σ H x y v u Q I rx ry h
  obtain ⟨i, j, rfl, rfl, q⟩ := h
  obtain ⟨t, rfl⟩ := rx
  obtain ⟨t', rfl⟩ := ry
  exact rule i j t t' s _ _ ⟨.int (g i j), H, I.tok _, ⟨_, rfl⟩, q⟩
theorem opB0 {f : Value → Value → Sem Value} {g : Int → Int → Bool}
    (rule : ∀ (i j : Int) (t u : Tok) (s : Shared) (Q : Value → Shared → Prop) (E : Value → Shared → Prop), Q (.bool (g i j)) s → wpAny (model X.prog X.w) X.A (f (.int i t) (.int j u)) Q E s) :
    OpR X f (rI0 fun i j => .bl (g i j)) := by
  intro pins s σ H x y v u Q I rx ry h
  obtain ⟨i, j, rfl, rfl, q⟩ := h
  obtain ⟨t, rfl⟩ := rx
  obtain ⟨t', rfl⟩ := ry
  exact rule i j t t' s _ _ ⟨.bl (g i j), H, I, rfl, q⟩

def CDiv (i j : Int) : Prop := 0 < j ∧ j < 1073741824
def CPow (i j : Int) : Prop := 0 ≤ j ∧ j ≤ 1000000 ∧ i.natAbs < 2 ^ 64
def CMul (i j : Int) : Prop := (-(2 ^ 64) < i ∧ i < 2 ^ 64) ∨ (-(2 ^ 64) < j ∧ j < 2 ^ 64)
theorem CMul.ok {i j : Int} (h : CMul i j) : IntMulOk i j := by
  rcases h with ⟨h1, h2⟩ | ⟨h1, h2⟩
  · exact .of_left (intBits_le_64 h1 h2)
  · exact .of_right (intBits_le_64 h1 h2)
theorem two_pow_nn (k : Nat) : (0 : Int) ≤ 2 ^ k := by
  rw [two_pow_cast]
  exact Int.natCast_nonneg _

theorem op_add : OpR X (binaryOp .Add) (rI0 fun i j => .int (i + j)) := opI0 fun _ _ _ _ _ _ _ q => add_int q
theorem op_sub : OpR X (binaryOp .Sub) (rI0 fun i j => .int (i - j)) := opI0 fun _ _ _ _ _ _ _ q => sub_int q
theorem op_mul : OpR X (binaryOp .Mult) (rI CMul fun i j => .int (i * j)) := opI fun _ _ _ _ _ _ _ hc q => mul_int q hc.ok
/-- // by a positive divisor -/
theorem op_fdiv : OpR X (binaryOp .FloorDiv) (rI CDiv fun i j => .int (i / j)) := opI fun i j _ _ _ _ _ hc q => by
  have h1 : (0 : Int) < j := hc.1
  have h2 : j < 1073741824 := hc.2
  exact floordiv_int (by omega) (by rw [Int.fdiv_eq_ediv_of_nonneg i (by omega)]; exact q) (.inl (PyProof.noPylong_small (by omega)))
/-- % by a positive divisor of any size -/
theorem op_mod : OpR X (binaryOp .Mod) (rI (fun _ j => 0 < j) fun i j => .int (i % j)) := opI fun i j _ _ _ _ _ hc q => by
  have h1 : (0 : Int) < j := hc
  exact mod_int' (by omega) (by rw [Int.fmod_eq_emod_of_nonneg i (by omega)]; exact q)
theorem op_shl : OpR X (binaryOp .LShift) (rI CPow fun i j => .int (i * 2 ^ j.toNat)) := opI fun _ _ _ _ _ _ _ hc q => lshift_int_small hc.1 hc.2.1 hc.2.2 q
theorem op_shr : OpR X (binaryOp .RShift) (rI (fun _ j => 0 ≤ j) fun i j => .int (i / 2 ^ j.toNat)) := opI fun i j _ _ _ _ _ hc q =>
  rshift_int hc (by rw [Int.fdiv_eq_ediv_of_nonneg i (two_pow_nn _)]; exact q)
theorem unI {f : Value → Sem Value} {g : Int → Int}
    (rule : ∀ (i : Int) (t : Tok) (s : Shared) (Q : Value → Shared → Prop) (E : Value → Shared → Prop), Q (.int (g i) s.toks) { s with toks := s.toks + 1 } → wpAny (model X.prog X.w) X.A (f (.int i t)) Q E s) :
    UnR X f (rU fun i => .int (g i)) := by
  intro pins s σ H x v Q I rx h
  obtain ⟨i, rfl, q⟩ := h
  obtain ⟨t, rfl⟩ := rx
  exact rule i t s _ _ ⟨.int (g i), H, I.tok _, ⟨_, rfl⟩, q⟩
theorem un_neg : UnR X (unaryOp .USub) (rU fun i => .int (-i)) := unI fun _ _ _ _ _ q => neg_int q
end

/-- the scalars that == tells apart as data does -/
def scal : V → V → Bool
  | .non, .non => true | .non, .int _ => true | .int _, .non => true | .non, .bl _ => true | .bl _, .non => true | .non, .str _ => true | .str _, .non => true
  | .int _, .int _ => true | .bl _, .bl _ => true | .str _, .str _ => true | .byt _, .byt _ => true
  | .int _, .str _ => true | .str _, .int _ => true | .bl _, .str _ => true | .str _, .bl _ => true
  | _, _ => false
def rEq : R2 := fun x y H Q => scal x y = true ∧ Q (.bl (decide (x = y))) H
def rNe : R2 := fun x y H Q => scal x y = true ∧ Q (.bl (!decide (x = y))) H

theorem dec_int {i j : Int} : decide (V.int i = V.int j) = (i == j) := by
  rw [Bool.eq_iff_iff]
  simp
theorem dec_bl {i j : Bool} : decide (V.bl i = V.bl j) = (i == j) := by
  rw [Bool.eq_iff_iff]
  simp
theorem dec_str {i j : Str} : decide (V.str i = V.str j) = (i == j) := by
  rw [Bool.eq_iff_iff]
  simp
theorem dec_byt {i j : Array UInt8} : decide (V.byt i = V.byt j) = (i.toList == j.toList) := by
  rw [Bool.eq_iff_iff]
  cases i
  cases j
  simp

section
variable {X : Cx} {a b c : Expr} {ta tb tc : TE} {pos : Pos}
theorem fin_bl {pins : List (Addr × Obj)} {σ : St} {H : Hp} {s : Shared} {Q : VK} {k k' : Bool} (I : Inv X pins σ H s) (q : Q (.bl k) H) (e : k = k') : EP X pins σ Q (.bool k') s := by
  subst e
  exact ⟨.bl k, H, I, rfl, q⟩
theorem op_eq : OpR X (compareOp .Eq) rEq := by
  intro pins s σ H x y v u Q I rx ry h
  obtain ⟨hs, q⟩ := h
  cases x with
  | non =>
    cases rx
    cases y with
    | non => cases ry; exact PySem.EqNone.eq_none_none (fin_bl I q (by simp))
    | bl j => cases ry; exact PySem.EqNone.eq_none_bool (fin_bl I q (by simp))
    | int j => obtain ⟨t', rfl⟩ := ry; exact PySem.EqNone.eq_none_int (fin_bl I q (by simp))
    | str j => obtain ⟨t', rfl⟩ := ry; exact PySem.EqNone.eq_none_str (fin_bl I q (by simp))
    | _ => exact absurd (show false = true from hs) Bool.false_ne_true
  | bl i =>
    cases rx
    cases y with
    | non => cases ry; exact PySem.EqNone.eq_bool_none (fin_bl I q (by simp))
    | bl j => cases ry; exact eq_bool (fin_bl I q dec_bl)
    | str j => obtain ⟨t', rfl⟩ := ry; exact PySem.EqMixed.eq_bool_str (fin_bl I q (by simp))
    | _ => exact absurd (show false = true from hs) Bool.false_ne_true
  | int i =>
    obtain ⟨t, rfl⟩ := rx
    cases y with
    | non => cases ry; exact PySem.EqNone.eq_int_none (fin_bl I q (by simp))
    | int j => obtain ⟨t', rfl⟩ := ry; exact eq_int (fin_bl I q dec_int)
    | str j => obtain ⟨t', rfl⟩ := ry; exact PySem.EqMixed.eq_int_str (fin_bl I q (by simp))
    | _ => exact absurd (show false = true from hs) Bool.false_ne_true
  | str i =>
    obtain ⟨t, rfl⟩ := rx
    cases y with
    | non => cases ry; exact PySem.EqNone.eq_str_none (fin_bl I q (by simp))
    | bl j => cases ry; exact PySem.EqMixed.eq_str_bool (fin_bl I q (by simp))
    | int j => obtain ⟨t', rfl⟩ := ry; exact PySem.EqMixed.eq_str_int (fin_bl I q (by simp))
    | str j => obtain ⟨t', rfl⟩ := ry; exact eq_str (fin_bl I q dec_str)
    | _ => exact absurd (show false = true from hs) Bool.false_ne_true
  | byt i =>
    obtain ⟨t, rfl⟩ := rx
    cases y with
    | byt j => obtain ⟨t', rfl⟩ := ry; exact PySem.W.eq_bytes (fin_bl I q dec_byt)
    | _ => exact absurd (show false = true from hs) Bool.false_ne_true
  | _ => cases y <;> exact absurd (show false = true from hs) Bool.false_ne_true
theorem op_ne : OpR X (compareOp .NotEq) rNe := by
  intro pins s σ H x y v u Q I rx ry h
  obtain ⟨hs, q⟩ := h
  cases x with
  | non =>
    cases rx
    cases y with
    | non => cases ry; exact PySem.EqNone.ne_none_none (fin_bl I q (by simp))
    | bl j => cases ry; exact PySem.EqNone.ne_none_bool (fin_bl I q (by simp))
    | int j => obtain ⟨t', rfl⟩ := ry; exact PySem.EqNone.ne_none_int (fin_bl I q (by simp))
    | str j => obtain ⟨t', rfl⟩ := ry; exact PySem.EqNone.ne_none_str (fin_bl I q (by simp))
    | _ => exact absurd (show false = true from hs) Bool.false_ne_true
  | bl i =>
    cases rx
    cases y with
    | non => cases ry; exact PySem.EqNone.ne_bool_none (fin_bl I q (by simp))
    | bl j => cases ry; exact ne_bool (fin_bl I q (congrArg not dec_bl))
    | str j => obtain ⟨t', rfl⟩ := ry; exact PySem.EqMixed.ne_bool_str (fin_bl I q (by simp))
    | _ => exact absurd (show false = true from hs) Bool.false_ne_true
  | int i =>
    obtain ⟨t, rfl⟩ := rx
    cases y with
    | non => cases ry; exact PySem.EqNone.ne_int_none (fin_bl I q (by simp))
    | int j => obtain ⟨t', rfl⟩ := ry; exact ne_int (fin_bl I q (congrArg not dec_int))
    | str j => obtain ⟨t', rfl⟩ := ry; exact PySem.EqMixed.ne_int_str (fin_bl I q (by simp))
    | _ => exact absurd (show false = true from hs) Bool.false_ne_true
  | str i =>
    obtain ⟨t, rfl⟩ := rx
    cases y with
    | non => cases ry; exact PySem.EqNone.ne_str_none (fin_bl I q (by simp))
    | bl j => cases ry; exact PySem.EqMixed.ne_str_bool (fin_bl I q (by simp))
    | int j => obtain ⟨t', rfl⟩ := ry; exact PySem.EqMixed.ne_str_int (fin_bl I q (by simp))
    | str j => obtain ⟨t', rfl⟩ := ry; exact ne_str (fin_bl I q (congrArg not dec_str))
    | _ => exact absurd (show false = true from hs) Bool.false_ne_true
  | byt i =>
    obtain ⟨t, rfl⟩ := rx
    cases y with
    | byt j => obtain ⟨t', rfl⟩ := ry; exact PySem.W.ne_bytes (fin_bl I q (congrArg not dec_byt))
    | _ => exact absurd (show false = true from hs) Bool.false_ne_true
  | _ => cases y <;> exact absurd (show false = true from hs) Bool.false_ne_true

theorem op_lt : OpR X (compareOp .Lt) (rI0 fun i j => .bl (decide (i < j))) := opB0 fun _ _ _ _ _ _ _ q => lt_int q
theorem op_le : OpR X (compareOp .LtE) (rI0 fun i j => .bl (decide (i ≤ j))) := opB0 fun _ _ _ _ _ _ _ q => le_int q
theorem op_gt : OpR X (compareOp .Gt) (rI0 fun i j => .bl (decide (j < i))) := opB0 fun _ _ _ _ _ _ _ q => gt_int q
theorem op_lt_str : OpR X (compareOp .Lt) (fun x y H Q => ∃ i j, x = .str i ∧ y = .str j ∧ Q (.bl (decide (i.cps.toList < j.cps.toList))) H) := by
  intro pins s σ H x y v u Q I rx ry h
  obtain ⟨i, j, rfl, rfl, q⟩ := h
  obtain ⟨t, rfl⟩ := rx
  obtain ⟨t', rfl⟩ := ry
  exact lt_str (fin_bl I q rfl)
/-- the one string within the other -/
theorem op_in_str : OpR X (compareOp .In) (fun x y H Q => ∃ i j, x = .str i ∧ y = .str j ∧ Q (.bl (!(Builtin.Str.occurrences j i 0 j.length 1).isEmpty)) H) := by
  intro pins s σ H x y v u Q I rx ry h
  obtain ⟨i, j, rfl, rfl, q⟩ := h
  obtain ⟨t, rfl⟩ := rx
  obtain ⟨t', rfl⟩ := ry
  exact in_str (fin_bl I q rfl)

/-- is None, is not None: the right side a value none -/
theorem op_isN : OpR X (compareOp .Is) (fun x y H Q => y = .non ∧ Q (.bl (decide (x = .non))) H) := by
  intro pins s σ H x y v u Q I rx ry h
  obtain ⟨rfl, q⟩ := h
  cases ry
  refine is_none_gen (fin_bl I q ?_)
  cases x <;> first
    | (cases rx; rfl)
    | (obtain ⟨t, rfl⟩ := rx; rfl)
theorem op_notN : OpR X (compareOp .IsNot) (fun x y H Q => y = .non ∧ Q (.bl (!decide (x = .non))) H) := by
  intro pins s σ H x y v u Q I rx ry h
  obtain ⟨rfl, q⟩ := h
  cases ry
  refine isnot_none_gen (fin_bl I q ?_)
  cases x <;> first
    | (cases rx; rfl)
    | (obtain ⟨t, rfl⟩ := rx; rfl)

/-- two rules for one operation: by cases -/
theorem OpR.or {f : Value → Value → Sem Value} {r r' : R2} (h : OpR X f r) (h' : OpR X f r') : OpR X f (fun x y H Q => r x y H Q ∨ r' x y H Q) := by
  intro pins s σ H x y v u Q I rx ry q
  rcases q with q | q
  · exact h pins s σ H x y v u Q I rx ry q
  · exact h' pins s σ H x y v u Q I rx ry q

theorem nomark (b : Expr) {op : CmpOp} (h : op ≠ .In := by decide) (h2 : op ≠ .NotIn := by decide) : behindInMarks op b = false := by
  have e1 : (op == CmpOp.In) = false := by cases op <;> first | rfl | exact absurd rfl h
  have e2 : (op == CmpOp.NotIn) = false := by cases op <;> first | rfl | exact absurd rfl h2
  cases b <;> simp [behindInMarks, e1, e2]
/-- a comparison as a value; hm: nomark b, or (for in, not in) by with_unfolding_all rfl -/
theorem pe_cmpR {op : CmpOp} {r : R2} (ho : OpR X (compareOp op) r) (ha : PE X a ta) (hb : PE X b tb) (hm : behindInMarks op b = false) : PE X (.Compare a [op] [b] pos) (tOp r ta tb) := by
  intro pins s σ H Q I h
  exact wpAny_Compare1 (binT ha hb I h fun v u s2 x y H2 I2 rx ry q => ho pins s2 σ H2 x y v u Q I2 rx ry q) hm
/-- a reading of a value as a test -/
def tTest (t : TE) : TT := fun σ H Q => t σ H fun x H' => ∃ k, x = .bl k ∧ Q k H'
theorem pt_cmpR {op : CmpOp} {r : R2} (ho : OpR X (compareOp op) r) (ha : PE X a ta) (hb : PE X b tb) (hm : behindInMarks op b = false) : PT X (.Compare a [op] [b] pos) (tTest (tOp r ta tb)) := by
  intro pins s σ H Q I h
  refine wpAny_isTrue_Compare1 (thn (ha pins s σ H _ I h) fun v s1 ⟨x, H1, I1, r1, q1⟩ => thn (hb pins s1 σ H1 _ I1 q1) fun u s2 ⟨y, H2, I2, r2, q2⟩ =>
    thn (ho pins s2 σ H2 x y v u _ I2 r1 r2 q2) fun c s3 ⟨z, H3, I3, r3, k, e, q3⟩ => ?_) hm
  subst e
  cases r3
  exact wpAny_truthy_bool ⟨H3, I3, q3⟩
/-- a op1 b op2 c -/
def tChain (r r' : R2) (ta tb tc : TE) : TE := fun σ H Q => ta σ H fun x H1 => tb σ H1 fun y H2 => r x y H2 fun z H3 => ∃ k, z = .bl k ∧
  (if k = true then tc σ H3 fun w' H4 => r' y w' H4 Q else Q (.bl false) H3)
theorem pt_chain {op op' : CmpOp} {r r' : R2} (ho : OpR X (compareOp op) r) (ho' : OpR X (compareOp op') r') (ha : PE X a ta) (hb : PE X b tb) (hc : PE X c tc)
    (hm : lastMarks [op, op'] [b, c] = false := by with_unfolding_all rfl) : PT X (.Compare a [op, op'] [b, c] pos) (tTest (tChain r r' ta tb tc)) := by
  intro pins s σ H Q I h
  refine isTrue_chain (thn (ha pins s σ H _ I h) fun v s1 ⟨x, H1, I1, r1, q1⟩ => test_link (thn (hb pins s1 σ H1 _ I1 q1) fun u s2 ⟨y, H2, I2, r2, q2⟩ =>
    thn (ho pins s2 σ H2 x y v u _ I2 r1 r2 q2) fun d s3 ⟨z, H3, I3, r3, k, e, q3⟩ => ?_)) hm
  subst e
  cases r3
  refine wpAny_truthy_bool ?_
  cases k with
  | false =>
    obtain ⟨k', e', q'⟩ := q3
    cases e'
    exact ite_ff ⟨H3, I3, q'⟩
  | true =>
    refine ite_tt (test_last (thn (hc pins s3 σ H3 _ I3 q3) fun w' s4 ⟨z', H4, I4, r4, q4⟩ => thn (ho' pins s4 σ H4 y z' u w' _ I4 r2 r4 q4) fun d' s5 ⟨z2, H5, I5, r5, k2, e2, q5⟩ => ?_))
    subst e2
    cases r5
    exact wpAny_truthy_bool ⟨H5, I5, q5⟩

theorem line63 : (sizeLine : Nat) < 2 ^ 63 := by rw [sizeLine_eq]; decide
theorem op_add_str : OpR X (binaryOp .Add) (fun x y H Q => ∃ i j, x = .str i ∧ y = .str j ∧ i.length + j.length ≤ sizeLine ∧ Q (.str (i ++ j)) H) := by
  intro pins s σ H x y v u Q I rx ry h
  obtain ⟨i, j, rfl, rfl, hz, q⟩ := h
  obtain ⟨t, rfl⟩ := rx
  obtain ⟨t', rfl⟩ := ry
  exact wpAny_with_toks (n := 1) I.tk (add_str (fun t' tk ht => ⟨.str (i ++ j), H, I.tok _ ht, ⟨_, rfl⟩, q⟩) hz)
theorem vals1 {x : V} {us : List Value} (r : Vals [x] us) : ∃ u, us = [u] ∧ RelV x u := by
  cases r with
  | cons r1 r2 => cases r2; exact ⟨_, rfl, r1⟩
theorem vals2 {x y : V} {us : List Value} (r : Vals [x, y] us) : ∃ u w', us = [u, w'] ∧ RelV x u ∧ RelV y w' := by
  cases r with
  | cons r1 r2 =>
    cases r2 with
    | cons r3 r4 => cases r4; exact ⟨_, _, rfl, r1, r3⟩
theorem call_int1 : CallR X (.type "int") (fun xs H Q => (∃ i, xs = [.int i] ∧ Q (.int i) H) ∨ ∃ k, xs = [.bl k] ∧ Q (.int (if k then 1 else 0)) H) := by
  intro pins s σ H xs us Q I r h
  rcases h with ⟨i, rfl, q⟩ | ⟨k, rfl, q⟩
  · obtain ⟨u, rfl, t, rfl⟩ := vals1 r
    exact call_int_int ⟨.int i, H, I, ⟨_, rfl⟩, q⟩
  · obtain ⟨u, rfl, r1⟩ := vals1 r
    cases r1
    exact call_int_bool ⟨.int (if k then 1 else 0), H, I.tok _, ⟨_, rfl⟩, q⟩
end
end L2

namespace L2
open PySem PySem.Spec PyProof.Rows

structure ObjM (h : Heap) (x dx C : Addr) (mA : Str → Option Value) : Prop where
  obj : h.get? x = some (PySem.W.instObj C dx)
  ns : h.Ns1 dx mA
  ne : dx ≠ x

theorem lookIn_ns {h : Heap} {dx : Addr} {mA : Str → Option Value} (n : h.Ns1 dx mA) : ∃ od, h.get? dx = some od ∧ ∀ name, PySem.W.lookIn name od = some (mA name) := by
  obtain ⟨o, es, ep, ho, hd, hk, _, hm⟩ := n
  refine ⟨o, ho, fun name => ?_⟩
  have e := hm name
  unfold nsFind findBy at e
  rw [← Array.find?_toList] at e
  unfold PySem.W.lookIn
  rw [hd]
  dsimp only
  split
  · rename_i y q
    rw [q] at e
    exact congrArg some e
  · rename_i q
    rw [q] at e
    have a : es.toList.any (·.refKey) = false := by
      rw [List.any_eq_false]
      intro y hy
      obtain ⟨z, t, hkey⟩ := hk y (Array.mem_toList_iff.mp hy)
      simp [DictEntry.refKey, hkey]
    have a' : ¬ es.toList.any (·.refKey) = true := by rw [a]; exact Bool.false_ne_true
    rw [if_neg a']
    exact congrArg some e

theorem ObjM.look {h : Heap} {x dx C : Addr} {mA : Str → Option Value} (I : ObjM h x dx C mA) : ∃ od, PySem.W.InstAt h x (PySem.W.instObj C dx) C (some od) ∧ ∀ name, PySem.W.lookIn name od = some (mA name) :=
  let ⟨od, ho, hl⟩ := lookIn_ns I.ns
  ⟨od, ⟨I.obj, rfl, rfl, ho⟩, hl⟩

section
variable {prog : Program} {w : World} {A : Around} {E : Value → Shared → Prop} {s : Shared} {K : PySem.W.Frag} {x dx C f : Addr} {mA : Str → Option Value} {name : Str} {v : Value}

end

section
variable {P : Program} {w : World} {H H' : Hp} {h h' : Heap} {a C dx : Addr} {fs fs' : List (Str × V)}
theorem ins_get (hok : HOk P w H h) (e : H a = some (.ins C dx fs)) : ∃ mA, ObjM h a dx C mA ∧ (∀ f, RelO (fs.lookup f) (mA f)) ∧ PySem.Within mA (fs.map (·.1)) ∧ fs.length ≤ 1000 ∧ H dx = some (.own a) := by
  obtain ⟨d, z, ne, ob, mA, n, r, q⟩ := (show ObjOk P w H h a (.ins C dx fs) from hok a _ e)
  exact ⟨mA, ⟨ob, n, ne⟩, r, q, z, d⟩
end

structure Cls (K : PySem.W.Frag) (C : Addr) : Prop where
  pg : PySem.W.plainGet K C Str.empty = true
  hd : PySem.W.hasDictIn K C = true
  po : PySem.W.plainOver K C = true
  sa : PySem.W.findIn K (.ref C) "__setattr__" = some (some (.builtin "object.__setattr__"))
theorem Cls.get {K : PySem.W.Frag} {C : Addr} (c : Cls K C) (f : Str) : PySem.W.plainGet K C f = true := c.pg
section
variable {X : Cx} {pins : List (Addr × Obj)} {σ : St} {H : Hp} {s : Shared} {a C dx : Addr} {fs : List (Str × V)} {f : Str} {v : V} {A : Around} {E : Value → Shared → Prop}

/-- a new instance, tracked, without attributes -/
theorem Inv.made (I : Inv X pins σ H s) : Inv X pins σ (upd (upd H s.heap.objs.size (.own (s.heap.objs.size + 1))) (s.heap.objs.size + 1) (.ins C s.heap.objs.size []))
    { s with heap := (s.heap.push PySem.W.emptyDict).push (PySem.W.instObj C s.heap.objs.size) } := by
  have e1 : (s.heap.push PySem.W.emptyDict).get? s.heap.objs.size = some PySem.W.emptyDict := Heap.get?_push_size s.heap rfl
  have e2 : ((s.heap.push PySem.W.emptyDict).push (PySem.W.instObj C s.heap.objs.size)).get? (s.heap.objs.size + 1) = some (PySem.W.instObj C s.heap.objs.size) := by
    have := Heap.get?_push_size (s.heap.push PySem.W.emptyDict) (o := PySem.W.instObj C s.heap.objs.size) rfl
    rwa [Heap.size_push] at this
  have e3 : (s.heap.push PySem.W.emptyDict).Ns s.heap.objs.size (fun _ => none) := ⟨PySem.W.emptyDict, #[], _, e1, rfl, (fun e he => absurd he (by simp)), fun _ => rfl⟩
  have I1 := I.laid (a := s.heap.objs.size) (o := .own (s.heap.objs.size + 1)) (h' := s.heap.push PySem.W.emptyDict) (t' := s.toks) (fun b u q => Heap.get?_push_of_some _ q) (Nat.le_refl _) ⟨_, e1⟩
  refine I1.laid (a := s.heap.objs.size + 1) (o := .ins C s.heap.objs.size []) (t' := s.toks) (fun b u q => Heap.get?_push_of_some _ q) (Nat.le_of_eq (Heap.size_push _ _)) ?_
  have ne : s.heap.objs.size ≠ s.heap.objs.size + 1 := Nat.ne_of_lt (Nat.lt_succ_self _)
  refine ⟨by rw [upd_ne ne, upd_same], Nat.zero_le _, ne, e2, fun _ => none, (Heap.Ns1.of_empty e3).at fun o q => Heap.get?_push_of_some _ q, fun _ => True.intro, fun y hy => absurd rfl hy⟩

end

section
variable {X : Cx} {o e value : Expr} {f : Str} {pos pos' tpos : Pos} {ta tv : TE}
end

section
variable {X : Cx} {pins : List (Addr × Obj)} {σ : St} {H : Hp} {s : Shared} {A : Around} {E : Value → Shared → Prop} {Q : Value → Shared → Prop} {c : Value} {b : Bool}
/-- the type of a value, as the fragment's deciders take it; for an instance its class -/
inductive TyOf (K : PySem.W.Frag) (H : Hp) : V → Value → Prop where
  | non : TyOf K H .non (.type "NoneType")
  | bl (x : Bool) : TyOf K H (.bl x) (.type "bool")
  | int (i : Int) : TyOf K H (.int i) (.type "int")
  | str (x : Str) : TyOf K H (.str x) (.type "str")
  | flt (x : UInt64) : TyOf K H (.flt x) (.type "float")
  | lst {a : Addr} {xs : List V} (e : H a = some (.lst xs)) : TyOf K H (.ref a) (.type "list")
  | frz {a : Addr} {o : Obj} {xs : List V} (e : H a = some (.frz o (.lst xs))) : TyOf K H (.ref a) (.type "list")
  | tup {a : Addr} {xs : List V} (e : H a = some (.tup xs)) : TyOf K H (.ref a) (.type "tuple")
  | dK {a : Addr} {kvs : List (Key × V)} (e : H a = some (.dK kvs)) : TyOf K H (.ref a) (.type "dict")
  | dT {a : Addr} {kvs : List (List Key × V)} (e : H a = some (.dT kvs)) : TyOf K H (.ref a) (.type "dict")
  | ins {a C dx : Addr} {fs : List (Str × V)} (e : H a = some (.ins C dx fs)) (cl : Cls K C) (ha : PySem.W.findIn K (.ref C) "__class__" = some (some (.builtin "object.__class__")))
      (hn : PySem.W.specialIn K (.builtin "object.__class__") "__get__" = some (some (.builtin "getset_descriptor.__get__"))) (htk : PySem.W.takesIn K (.builtin "object.__class__") = some true)
      (hm : PySem.W.mroIn K C (.type "object") = some true) : TyOf K H (.ref a) (.ref C)
/-- isinstance(x, c) for one class c, a built-in or an own one: kitOne's answer -/
theorem isinst_ok {x : V} {u t : Value} (I : Inv X pins σ H s) (rx : RelV x u) (ty : TyOf X.K H x t) (e : PySem.W.kitOne X.K t c = some b) (h : ∀ tk, Q (.bool b) { s with toks := tk }) :
    wpAny (model X.prog X.w) A (call (.builtin "isinstance") [u, c]) Q E s := by
  cases ty with
  | non => cases (show u = Value.none from rx); exact PySem.W.kia_one PySem.W.kitx_none I.kIn True.intro e (fun z => nomatch z) h
  | bl y => cases (show u = Value.bool y from rx); exact PySem.W.kia_one PySem.W.kitx_bool I.kIn True.intro e (fun z => nomatch z) h
  | int i => obtain ⟨t, q⟩ := (show ∃ t, u = Value.int i t from rx); cases q; exact PySem.W.kia_one PySem.W.kitx_int I.kIn True.intro e (fun z => nomatch z) h
  | str y => obtain ⟨t, q⟩ := (show ∃ t, u = Value.str y t from rx); cases q; exact PySem.W.kia_one PySem.W.kitx_str I.kIn True.intro e (fun z => nomatch z) h
  | flt y => obtain ⟨t, q⟩ := (show ∃ t, u = Value.float y t from rx); cases q; exact PySem.W.kia_one PySem.W.kitx_float I.kIn True.intro e (fun z => nomatch z) h
  | @lst a xs ea =>
    cases (show u = Value.ref a from rx)
    obtain ⟨_, _, n, _, h1⟩ := (show ObjOk X.prog X.w H s.heap a (.lst xs) from I.hok a _ ea)
    exact PySem.W.kia_one PySem.W.kitx_list I.kIn ⟨_, h1, rfl⟩ e (fun z => nomatch z) h
  | @frz a ob xs ea =>
    cases (show u = Value.ref a from rx)
    obtain ⟨_, _, _, n, _, h1⟩ := (show ObjOk X.prog X.w H s.heap a (.frz ob (.lst xs)) from I.hok a _ ea)
    exact PySem.W.kia_one PySem.W.kitx_list I.kIn ⟨_, h1, rfl⟩ e (fun z => nomatch z) h
  | @tup a xs ea =>
    cases (show u = Value.ref a from rx)
    obtain ⟨_, _, _, p⟩ := (show ObjOk X.prog X.w H s.heap a (.tup xs) from I.hok a _ ea)
    obtain ⟨o, h1, h2, _⟩ := p
    exact PySem.W.kia_one PySem.W.kitx_tuple I.kIn ⟨o, h1, h2⟩ e (fun z => nomatch z) h
  | @dK a kvs ea =>
    cases (show u = Value.ref a from rx)
    obtain ⟨_, _, vs, _, p⟩ := (show ObjOk X.prog X.w H s.heap a (.dK kvs) from I.hok a _ ea)
    obtain ⟨o, es, ep, h1, h2, _⟩ := p
    exact PySem.W.kia_one PySem.W.kitx_dict I.kIn ⟨o, h1, h2.1⟩ e (fun z => nomatch z) h
  | @dT a kvs ea =>
    cases (show u = Value.ref a from rx)
    obtain ⟨_, _, xs, _, o, es, ep, h1, h2, _⟩ := (show ObjOk X.prog X.w H s.heap a (.dT kvs) from I.hok a _ ea)
    exact PySem.W.kia_one PySem.W.kitx_dict I.kIn ⟨o, h1, h2.1⟩ e (fun z => nomatch z) h
  | @ins a C dx fs ea cl ha hn htk hm =>
    cases (show u = Value.ref a from rx)
    obtain ⟨mA, O, _⟩ := ins_get I.hok ea
    obtain ⟨od, J, _⟩ := O.look
    exact PySem.W.kia_one (PySem.W.kitx_own (cl.get _) cl.hd ha hn htk hm) I.kIn J e (fun z => nomatch z) h
end
end L2

namespace L2
open PySem PySem.Spec PyProof.Rows

structure Room (k : Nat) (A : Around) : Prop where
  hd : A.handled = none
  dp : A.depth + 3 * k + 5 < recursionLimit
  un : A.units + 16 * k + 200 < cLine
theorem Room.mono {j k : Nat} {A : Around} (r : Room k A) (h : j ≤ k) : Room j A := ⟨r.hd, by have := r.dp; omega, by have := r.un; omega⟩
theorem Room.deeper {k : Nat} {A : Around} (r : Room (k + 1) A) (env : Env) : Room k (A.deeper env) :=
  ⟨r.hd, by have := r.dp; show A.depth + 1 + 3 * k + 5 < _; omega, by have := r.un; show A.units + 3 + 16 * k + 200 < _; omega⟩
theorem Room.in1 {k : Nat} {A : Around} (r : Room (k + 1) A) : Room k A.in1 :=
  ⟨r.hd, by have := r.dp; show A.depth + 3 * k + 5 < _; omega, by have := r.un; show A.units + 1 + 16 * k + 200 < _; omega⟩
theorem Room.depth {k : Nat} {A : Around} (r : Room k A) : A.depth < recursionLimit := by have := r.dp; omega
theorem Room.units {k : Nat} {A : Around} (r : Room k A) : A.units + 64 < cLine := by have := r.un; omega
def tNil : TA := fun _ H Q => Q [] H
def tCons (ta : TE) (tr : TA) : TA := fun σ H Q => ta σ H fun x H1 => tr σ H1 fun xs H2 => Q (x :: xs) H2
section
variable {X : Cx} {e : Expr} {es : List Expr} {te : TE} {t : TA} {pos : Pos}
theorem pa_nil : PA X [] tNil := fun _ _ _ _ H Q I h => Calls.spliced_nil ⟨[], H, I, .nil, h⟩
theorem pa_cons (ha : PE X e te) (hr : PA X es t) (hs : starEach (e :: es) X.env = (false, eval e X.env) :: starEach es X.env := by rfl) : PA X (e :: es) (tCons te t) := by
  intro pos pins s σ H Q I h
  rw [hs]
  show wpAny _ _ (spliced ((false, eval e X.env) :: backTo pos (starEach es X.env))) _ _ s
  refine Calls.spliced_cons (thn (ha pins s σ H _ I h) fun u s1 ⟨x, H1, I1, r1, q1⟩ => ?_)
  exact thn (hr pos pins s1 σ H1 _ I1 q1) fun us s2 ⟨xs, H2, I2, r2, q2⟩ => ⟨x :: xs, H2, I2, .cons r1 r2, q2⟩

/-- a tuple, a list of written items -/
def tTup (t : TA) : TE := fun σ H Q => t σ H fun xs H1 => xs.length ≤ sizeLine ∧ ∀ p, H1 p = none → Q (.ref p) (upd H1 p (.tup xs))
def tLst (t : TA) : TE := fun σ H Q => t σ H fun xs H1 => xs.length ≤ sizeLine ∧ ∀ p, H1 p = none → Q (.ref p) (upd H1 p (.lst xs))
theorem pe_tup {x1} (h : PA X es t) : PE X (.Tuple es x1 pos) (tTup t) := by
  intro pins s σ H Q I hq
  refine wpAny_Tuple_spliced (thn (h pos pins s σ H _ I hq) fun us s1 ⟨xs, H1, I1, r, z, q⟩ => ⟨by rw [← r.length]; exact z, ?_⟩)
  have hf : H1 s1.heap.objs.size = none := I1.hok.fresh (Nat.le_refl _)
  refine ⟨.ref s1.heap.objs.size, upd H1 s1.heap.objs.size (.tup xs), I1.laid (t' := s1.toks) (fun b u e => Heap.get?_push_of_some _ e) (Nat.le_refl _) ?_, rfl, q _ hf⟩
  exact ⟨z, us, r, ⟨_, Heap.get?_push_size _ rfl, rfl, _, rfl⟩⟩
theorem pe_lst (h : PA X es t) : PE X (.List es pos) (tLst t) := by
  intro pins s σ H Q I hq
  refine wpAny_List_spliced (thn (h pos pins s σ H _ I hq) fun us s1 ⟨xs, H1, I1, r, z, q⟩ => ⟨by rw [← r.length]; exact z, ?_⟩)
  have hf : H1 s1.heap.objs.size = none := I1.hok.fresh (Nat.le_refl _)
  refine ⟨.ref s1.heap.objs.size, upd H1 s1.heap.objs.size (.lst xs), I1.laid (t' := s1.toks) (fun b u e => Heap.get?_push_of_some _ e) (Nat.le_refl _) ?_, rfl, q _ hf⟩
  exact ⟨z, us, 0, r, Heap.get?_push_size _ rfl⟩
end

/-- a def's promise: the bound arguments in the parameters' order, the heap, the wanted end, the wanted exception -/
abbrev Sp := List V → Hp → VK → XK → Prop
/-- how an exception lies behind a call (file 08 gives it): the callers' frames, abstract heap and state ahead of the call, the wish, the exception, the state -/
abbrev CXT := List Env → Hp → Shared → XK → Value → Shared → Prop

/-- the state at a call -/
structure Env0 (P : Program) (w : World) (K : PySem.W.Frag) (mg : Str → Option Value) (base : Heap) (A : Around) (outer : List Env) (s : Shared) (H : Hp) : Prop where
  frames : A.frames = some outer
  mod : Mod K mg base
  bs : ∀ b o, base.get? b = some o → s.heap.get? b = some o ∧ H b = none
  bsz : base.objs.size ≤ s.heap.objs.size
  funs : s.heap.FunFrames base outer
  frf : ∀ b ∈ frs outer, H b = none
  hok : HOk P w H s.heap
  bare : AllBare s.gens
  tk : 0 < s.toks
/-- a call's end -/
def CE (outer : List Env) (P : Program) (w : World) (H : Hp) (s : Shared) (Q : VK) (u : Value) (s' : Shared) : Prop :=
  ∃ v H', 0 < s'.toks ∧ s'.os = s.os ∧ AllBare s'.gens ∧ Un (frs outer) [] H H' s.heap s'.heap ∧ HOk P w H' s'.heap ∧ RelV v u ∧ Q v H'
def CR (CX : CXT) (outer : List Env) (P : Program) (w : World) (H : Hp) (s : Shared) (Q : VK) (E : XK) (r : Result) (s' : Shared) : Prop :=
  match r with
  | .ok (.ret u) => CE outer P w H s Q u s'
  | .ok _ => False
  | .error e => CX outer H s E e s'
structure FnOk (P : Program) (w : World) (K : PySem.W.Frag) (mg : Str → Option Value) (base : Heap) (CX : CXT) (k : Nat) (f : Addr) (fd : FuncData) (ps : List Str) (sp : Sp) : Prop where
  len : ∀ vs H Q E, sp vs H Q E → vs.length = ps.length
  run : ∀ (A : Around) (outer : List Env) (s : Shared) (H : Hp) (args : Args) (us : List Value) (vs : List V) (Q : VK) (E : XK), Room k A → Env0 P w K mg base A outer s H → BindsTo s fd args (ps.zip us) → Vals vs us → sp vs H Q E →
    codeAny (model P w) A (.call (.ref f) args) (CR CX outer P w H s Q E) s
theorem FnOk.mono {P : Program} {w : World} {K : PySem.W.Frag} {mg : Str → Option Value} {base : Heap} {CX : CXT} {j k : Nat} {f : Addr} {fd : FuncData} {ps : List Str} {sp : Sp} (F : FnOk P w K mg base CX j f fd ps sp) (h : j ≤ k) :
    FnOk P w K mg base CX k f fd ps sp := ⟨F.len, fun A outer s H args us vs Q E hr => F.run A outer s H args us vs Q E (hr.mono h)⟩
/-- a weaker promise -/
theorem FnOk.imp {P : Program} {w : World} {K : PySem.W.Frag} {mg : Str → Option Value} {base : Heap} {CX : CXT} {k : Nat} {f : Addr} {fd : FuncData} {ps : List Str} {sp sp' : Sp} (F : FnOk P w K mg base CX k f fd ps sp)
    (h : ∀ vs H Q E, sp' vs H Q E → sp vs H Q E) : FnOk P w K mg base CX k f fd ps sp' :=
  ⟨fun vs H Q E q => F.len vs H Q E (h _ _ _ _ q), fun A outer s H args us vs Q E hr he hb hv hs => F.run A outer s H args us vs Q E hr he hb hv (h _ _ _ _ hs)⟩

theorem Env0.in1 {P : Program} {w : World} {K : PySem.W.Frag} {mg : Str → Option Value} {base : Heap} {A : Around} {outer : List Env} {s : Shared} {H : Hp} (e : Env0 P w K mg base A outer s H) :
    Env0 P w K mg base A.in1 outer s H := ⟨e.frames, e.mod, e.bs, e.bsz, e.funs, e.frf, e.hok, e.bare, e.tk⟩

section
variable {X : Cx} {pins : List (Addr × Obj)} {σ : St} {H : Hp} {s s' : Shared}
/-- from a body: what a callee wants -/
theorem Inv.env0 (I : Inv X pins σ H s) : Env0 X.prog X.w X.K X.mg X.base X.A X.stack s H :=
  ⟨I.ok.frames, I.ok.mod, I.bs, Nat.le_trans I.ok.bsz I.sz, I.stack, I.stkFree, I.hok, I.bare, I.tk⟩
/-- behind a call -/
theorem Inv.after {Q : VK} {u : Value} (I : Inv X pins σ H s) (h : CE X.stack X.prog X.w H s Q u s') : EP X pins σ Q u s' := by
  obtain ⟨v, H', ht, os, bare, un, hok, r, q⟩ := h
  obtain ⟨hh, g, d, t, os'⟩ := s'
  obtain rfl : os' = s.os := os
  exact ⟨v, H', I.call (h' := hh) (g' := g) (d' := d) (t' := t) (ch := []) un hok bare (fun b z => absurd z (by simp)) ht, r, q⟩
end

/-- f(..): the written arguments, then the defaults dvs; E: what is wanted of an exception -/
def tCall (sp : Sp) (dvs : List V) (E : XK) (t : TA) : TE := fun σ H Q => t σ H fun vs H1 => sp (vs ++ dvs) H1 Q E
/-- how the parameters are bound: us the positional arguments, kw the keywords' values by name, ds the defaults that fill up -/
def Binds (K : PySem.W.Frag) (fd : FuncData) (ps : List Str) (ds : List Value) : Prop :=
  ∀ (s : Shared) (us : List Value), K.In s.heap → (us ++ ds).length = ps.length → BindsTo s fd ⟨us, []⟩ (ps.zip (us ++ ds))
/-- every parameter is given -/
theorem Binds.all {K : PySem.W.Frag} {fd : FuncData} {ps : List Str} (h : ∀ us : List Value, us.length = ps.length → bindArgs fd ⟨us, []⟩ = pure (ps.zip us)) : Binds K fd ps [] := fun s us _ hl => by
  rw [List.append_nil] at hl ⊢
  exact .of_eq (h us hl)

/-- an exception of a callee reaches what this body wants of exceptions -/
def Passes (CX : CXT) (X : Cx) (E : XK) : Prop := ∀ (pins : List (Addr × Obj)) (σ : St) (H : Hp) (s : Shared) (e : Value) (s' : Shared), Inv X pins σ H s → CX X.stack H s E e s' → X.xe e s'

section
variable {X : Cx} {CX : CXT} {k : Nat} {f C : Addr} {fd : FuncData} {ps : List Str} {sp : Sp} {dvs : List V} {ds : List Value} {E : XK} {x m : Str} {p pos apos : Pos} {e o : Expr} {es : List Expr} {ta : TE} {t : TA}

/-- the callee runs -/
theorem run_fn {pins : List (Addr × Obj)} {σ : St} {H : Hp} {s : Shared} {Q : VK} {us : List Value} {vs : List V} (F : FnOk X.prog X.w X.K X.mg X.base CX k f fd ps sp) (hr : Room k X.A) (hb : Binds X.K fd ps ds) (hd : Vals dvs ds) (hx : Passes CX X E)
    (I : Inv X pins σ H s) (r : Vals vs us) (h : sp (vs ++ dvs) H Q E) : wpAny (model X.prog X.w) X.A (call (.ref f) us) (EP X pins σ Q) X.xe s := by
  have r2 : Vals (vs ++ dvs) (us ++ ds) := r.append hd
  have hl : (us ++ ds).length = ps.length := by rw [← r2.length]; exact F.len _ _ _ _ h
  refine wpAny_call (codeAny_mono (F.run X.A X.stack s H ⟨us, []⟩ (us ++ ds) (vs ++ dvs) Q E hr I.env0 (hb s us I.kIn hl) r2 h) fun r s' hq => ?_)
  cases r with
  | error e => exact hx pins σ H s e s' I hq
  | ok fl =>
    cases fl with
    | ret u => exact I.after hq
    | next => exact False.elim hq
    | brk => exact False.elim hq
    | cont => exact False.elim hq

theorem pe_call (F : FnOk X.prog X.w X.K X.mg X.base CX k f fd ps sp) (hr : Room k X.A) (hg : Gl X x) (hm : X.mg x = some (.ref f)) (hk : PySem.W.keepIn X.K (.ref f) = true) (hb : Binds X.K fd ps ds) (hd : Vals dvs ds) (hx : Passes CX X E)
    (ha : PA X (e :: es) t) (hdb : (x == ("__debug__" : Str)) = false := by decide) (he : starEach (e :: es) X.env = (false, eval e X.env) :: starEach es X.env := by rfl) (hpl : (backTo pos (starEach es X.env)).any (·.1) = false := by rfl) :
    PE X (.Call (.Name x p) (e :: es) [] pos) (tCall sp dvs E t) := by
  intro pins s σ H Q I h
  refine wpAny_Call_Name_kw (ld_glob I hg hm ?_ hdb)
  refine PySem.W.callWith_K (h₀ := X.base) I.ok.mod.kin hk (thn (ha pos pins s σ H _ I h) fun us s1 ⟨vs, H1, I1, r, q⟩ => ⟨I1.kIn, ?_⟩) he hpl
  exact run_fn F hr hb hd hx I1 r q
end

section
variable {X : Cx} {CX : CXT} {k : Nat} {f C : Addr} {fd : FuncData} {ps ks : List Str} {sp : Sp} {E : XK} {x m : Str} {p pos apos kpos : Pos} {e o : Expr} {es : List Expr} {kws : List Keyword} {te ta : TE} {t tk : TA} {nm : Option Str}
variable {g : List Value → List Value → List Value} {gV : List V → List V → List V}
end

/-- names: the parameters first -/
structure FnScope (N P : List Str) (sc : Scope) : Prop where
  kind : sc.kind = .function
  co : sc.isCoroutine = false
  gen : sc.isGenerator = false
  nd : N.Nodup
  pre : N.take P.length = P
  par : ∀ x ∈ P, sc.names.lookup x = some .local ∨ sc.names.lookup x = some .cell
  nofree : ∀ y ∈ sc.names, y.2 ≠ .free

theorem bindL_out {kindOf : Str → Option NameKind} {x : Str} : ∀ {binds : List (Str × Value)} {m : Str → Option Value}, (∀ v, (x, v) ∉ binds) → bindL kindOf binds m x = m x
  | [], _, _ => rfl
  | (n, v) :: r, m, h => by
    unfold bindL
    rw [bindL_out fun w hw => h w (List.mem_cons_of_mem _ hw)]
    split
    · have : x ≠ n := by rintro rfl; exact h v List.mem_cons_self
      simp [this]
    · rfl
theorem bindC_out {kindOf : Str → Option NameKind} {x : Str} : ∀ {binds : List (Str × Value)} {m : Str → Option Value}, (∀ v, (x, v) ∉ binds) → bindC kindOf binds m x = m x
  | [], _, _ => rfl
  | (n, v) :: r, m, h => by
    unfold bindC
    rw [bindC_out fun w hw => h w (List.mem_cons_of_mem _ hw)]
    split
    · rfl
    · have : x ≠ n := by rintro rfl; exact h v List.mem_cons_self
      simp [this]
theorem bindL_get {kindOf : Str → Option NameKind} {x : Str} {v : Value} : ∀ {P : List Str} {vs : List Value} {i : Nat} {m : Str → Option Value}, P.Nodup → P[i]? = some x → vs[i]? = some v → kindOf x = some .local →
    bindL kindOf (P.zip vs) m x = some v
  | [], _, _, _, _, h, _, _ => by simp at h
  | _ :: _, [], _, _, _, _, h, _ => by simp at h
  | p :: P, w :: vs, 0, m, nd, h1, h2, hk => by
    simp at h1 h2; subst h1; subst h2
    show bindL kindOf ((p, w) :: P.zip vs) m p = _
    unfold bindL
    rw [bindL_out fun v hv => (List.nodup_cons.mp nd).1 (List.of_mem_zip hv).1, if_pos hk]
    simp
  | p :: P, w :: vs, i + 1, m, nd, h1, h2, hk => by
    show bindL kindOf ((p, w) :: P.zip vs) m x = _
    unfold bindL
    exact bindL_get (i := i) (List.nodup_cons.mp nd).2 (by simpa using h1) (by simpa using h2) hk
theorem bindC_get {kindOf : Str → Option NameKind} {x : Str} {v : Value} : ∀ {P : List Str} {vs : List Value} {i : Nat} {m : Str → Option Value}, P.Nodup → P[i]? = some x → vs[i]? = some v → kindOf x ≠ some .local →
    bindC kindOf (P.zip vs) m x = some v
  | [], _, _, _, _, h, _, _ => by simp at h
  | _ :: _, [], _, _, _, _, h, _ => by simp at h
  | p :: P, w :: vs, 0, m, nd, h1, h2, hk => by
    simp at h1 h2; subst h1; subst h2
    show bindC kindOf ((p, w) :: P.zip vs) m p = _
    unfold bindC
    rw [bindC_out fun v hv => (List.nodup_cons.mp nd).1 (List.of_mem_zip hv).1, if_neg hk]
    simp
  | p :: P, w :: vs, i + 1, m, nd, h1, h2, hk => by
    show bindC kindOf ((p, w) :: P.zip vs) m x = _
    unfold bindC
    exact bindC_get (i := i) (List.nodup_cons.mp nd).2 (by simpa using h1) (by simpa using h2) hk

/-- the names' values at the entry -/
def start (N : List Str) (vs : List V) : St := vs.map some ++ List.replicate (N.length - vs.length) none

/-- the context of a def's body, at its entry; an exception leaves the frame, then lies as CX says -/
def cxOf (CX : CXT) (P : Program) (w : World) (K : PySem.W.Frag) (mg : Str → Option Value) (base : Heap) (N : List Str) (qual : Str) (scope : Scope) (f : Addr) (cd : Value) (A : Around) (outer : List Env) (s : Shared) (H : Hp) (E : XK) : Cx where
  prog := P
  w := w
  K := K
  mg := mg
  base := base
  A := A.deeper (envOfC qual scope s.heap.objs.size f cd)
  N := N
  s₀ := s
  H₀ := H
  env := envOfC qual scope s.heap.objs.size f cd
  outer := outer
  stack := envOfC qual scope s.heap.objs.size f cd :: outer
  ex := []
  calm := true
  fn := fun _ => true
  pn := []
  xe := fun e s' => wpAny (model P w) (A.deeper (envOfC qual scope s.heap.objs.size f cd)) (leaving (envOfC qual scope s.heap.objs.size f cd) e) (fun _ s'' => CX outer H s E e s'') (fun e' s'' => CX outer H s E e' s'') s'

theorem cell_has {sc : Scope} {n : Nat} {x : Str} (h : sc.names.lookup x = some .cell) : ∃ c, (cellsFrom n sc.names []).lookup x = some c := by
  have q := PySem.W.cellsFrom_some sc.names n [] (.inl h)
  exact Option.isSome_iff_exists.mp q

theorem inv_start {CX : CXT} {P : Program} {w : World} {K : PySem.W.Frag} {mg : Str → Option Value} {base : Heap} {N ps : List Str} {qual : Str} {scope : Scope} {f : Addr} {cd : Value} {A : Around} {outer : List Env} {s s1 : Shared} {H : Hp} {E : XK} {us : List Value} {vs : List V}
    (S : FnScope N ps scope) (hd : A.handled = none) (e0 : Env0 P w K mg base A outer s H) (hl : vs.length = ps.length) (r : Vals vs us)
    (x : InCallC s s.heap.objs.size (bindL (envOfC qual scope s.heap.objs.size f cd).kindOf (ps.zip us) fun _ => none) (cellsFrom (s.heap.objs.size + 1) scope.names []) (bindC (envOfC qual scope s.heap.objs.size f cd).kindOf (ps.zip us) fun _ => none) s1) (ht : 0 < s1.toks) :
    Inv (cxOf CX P w K mg base N qual scope f cd A outer s H E) [] (start N vs) H s1 := by
  have hpl : ps.length ≤ N.length := by have := congrArg List.length S.pre; rw [List.length_take] at this; omega
  obtain ⟨h1, tk, rfl, hk⟩ := x.done
  have noA : ∀ b : Addr, b ∉ (cxOf CX P w K mg base N qual scope f cd A outer s H E).ex := fun b z => absurd (show b ∈ ([] : List Addr) from z) (by simp)
  refine ⟨⟨e0.mod, S.kind, rfl, rfl, Nat.le_refl _, fun y z c h1 h2 => ?_, fun y hy => ?_, fun y c _ h => ?_, fun _ => hd, Around.frames_deeper e0.frames, .inr ⟨rfl, rfl⟩, fun b z => absurd z (noA b), e0.bs, e0.bsz, fun b _ _ => noA b, fun b z => absurd z (noA b), e0.funs, e0.frf⟩,
    rfl, e0.bare, Un.kept hk, ⟨_, x.toInCall.ns, fun i y v h1 h2 h3 => ?_⟩, fun y c h => ⟨_, x.cell y c h⟩, e0.hok.fresh (Nat.le_refl _), fun y c h => ?_, fun p hp => absurd (show p ∈ ([] : List (Addr × Obj)) from hp) (by simp), e0.hok.kept hk, ?_, ht⟩
  · exact name_of_addr x.apart (PySem.mem_of_lookup h1) (PySem.mem_of_lookup h2)
  · have hy : scope.names.lookup y = some .cell ∨ scope.names.lookup y = some .free := hy
    rcases hy with hy | hy
    · exact cell_has hy
    · exact absurd rfl (S.nofree _ (PySem.mem_of_lookup hy))
  · exact Nat.le_of_lt (x.above y c (PySem.mem_of_lookup h))
  · have hi : i < vs.length := by
      unfold start at h2
      by_cases hi : i < vs.length
      · exact hi
      · rw [List.getElem?_append_right (by simpa using hi)] at h2
        rw [List.getElem?_replicate] at h2
        split at h2 <;> cases h2
    have ha : vs[i]? = some v := by
      unfold start at h2
      rw [List.getElem?_append_left (by simpa using hi), List.getElem?_map] at h2
      cases e : vs[i]? with
      | none => rw [e] at h2; cases h2
      | some a => rw [e] at h2; cases h2; rfl
    obtain ⟨u, hu, rv⟩ := r.get ha
    have hp : ps[i]? = some y := by
      rw [← S.pre, List.getElem?_take_of_lt (by omega)]; exact h1
    have ndP : ps.Nodup := by rw [← S.pre]; exact S.nd.sublist (List.take_sublist _ _)
    refine ⟨u, rv, ?_⟩
    rcases S.par y (List.mem_of_getElem? hp) with k | k
    · exact .inl ⟨k, bindL_get ndP hp hu k⟩
    · obtain ⟨c, e⟩ := cell_has (n := s.heap.objs.size + 1) k
      refine .inr ⟨.inl k, c, e, ?_⟩
      have q := x.cell y c e
      rw [bindC_get ndP hp hu (by show scope.names.lookup y ≠ _; rw [k]; decide)] at q
      exact q
  · exact e0.hok.fresh (Nat.le_of_lt (x.above y c (PySem.mem_of_lookup h)))
  · unfold start
    show _ = N.length
    rw [List.length_append, List.length_map, List.length_replicate]
    omega

/-- THE RULE: a def (or a method) of the text, by its body. The body's reading t is chosen for each entry; it is run at the parameters' values -/
theorem fn_of {CX : CXT} {P : Program} {w : World} {K : PySem.W.Frag} {mg : Str → Option Value} {base : Heap} {k : Nat} {f : Addr} {name qual : Str} {params : Arguments} {body : List Stmt} {scope : Scope} {dV kV doc pm cdv ct oc : Value} {an od : Option Addr}
    {osl : Array (Option Value)} {N ps : List Str} {sp : Sp} (lk : K.lookup f = some ⟨oc, od, .func (PySem.W.fnOf name qual params body scope dV kV doc pm an cdv ct), osl⟩) (hcd : PySem.W.codeIn K cdv qual = true) (S : FnScope N ps scope)
    (len : ∀ vs H Q E, sp vs H Q E → vs.length = ps.length)
    (hbody : ∀ (A : Around) (outer : List Env) (s : Shared) (H : Hp) (vs : List V) (Q : VK) (E : XK), Room k (A.deeper (envOfC qual scope s.heap.objs.size f cdv)) → sp vs H Q E →
      ∃ t, PSs (cxOf CX P w K mg base N qual scope f cdv A outer s H E) body t ∧ t { nx := fun _ H' => Q .non H', rt := Q } (start N vs) H) :
    FnOk P w K mg base CX (k + 1) f (PySem.W.fnOf name qual params body scope dV kV doc pm an cdv ct) ps sp := by
  refine ⟨len, fun A outer s H args us vs Q E hr e0 hb r hsp => ?_⟩
  have hl := len _ _ _ _ hsp
  have KX : K.In s.heap := e0.mod.kin.keeps fun b o e => (e0.bs b o e).1
  have lim : s.heap.NoLimit := e0.mod.nolimit.keeps fun b o e => (e0.bs b o e).1
  have hkind : ∀ y ∈ ps.zip us, scope.names.lookup y.1 = some .local ∨ (scope.names.lookup y.1 = some .cell ∧ ((cellsFrom (s.heap.objs.size + 1) scope.names []).lookup y.1).isSome = true) := fun ⟨n, v⟩ hy => by
    rcases S.par n (List.of_mem_zip hy).1 with q | q
    · exact .inl q
    · exact .inr ⟨q, PySem.W.cellsFrom_some _ _ _ (.inl q)⟩
  refine codeAny_call_function hr.depth (KX _ _ lk) rfl S.co S.gen rfl (PySem.W.codeRec_of KX hcd) (hb _ _ _ _ ?_)
  refine wpAny_with_toks (n := 1) e0.tk (wpAny_newFunctionEnv_cells S.kind hkind fun env he s1 x htk => ?_)
  subst he
  refine ⟨lim.keeps x.toInCall.keep, codeAny_func ?_⟩
  obtain ⟨t, ht, hq⟩ := hbody A outer s H vs Q E (hr.deeper _) hsp
  have I : Inv (cxOf CX P w K mg base N qual scope f cdv A outer s H E) [] (start N vs) H s1 := inv_start S hr.hd e0 hl r x htk
  refine wpAny_mono (ht [] s1 (start N vs) H _ I hq) (fun fl s' hs => ?_) fun e s' hs => hs
  have fin : ∀ {σ' : St} {H' : Hp} {v : V} {u : Value}, Inv (cxOf CX P w K mg base N qual scope f cdv A outer s H E) [] σ' H' s' → RelV v u → Q v H' → CE outer P w H s Q u s' :=
    fun {σ' H' v u} J rv q => ⟨v, H', J.tk, J.os, J.bare, J.base, J.hok, rv, q⟩
  cases fl with
  | ret u =>
    obtain ⟨v, σ', H', J, rv, q⟩ := hs
    exact fin J rv q
  | next =>
    obtain ⟨σ', H', J, q⟩ := hs
    exact fin (v := V.non) (u := Value.none) J rfl q
  | brk =>
    obtain ⟨_, _, _, q⟩ := hs
    exact False.elim q
  | cont =>
    obtain ⟨_, _, _, q⟩ := hs
    exact False.elim q
end L2

namespace L2
open PySem PySem.Spec PyProof.Rows
section
variable {X : Cx} {x : Str} {p pos : Pos} {e : Expr} {es : List Expr} {t : TA} {id T : String} {r : List V → Hp → VK → Prop}

def tCB (r : List V → Hp → VK → Prop) (t : TA) : TE := fun σ H Q => t σ H fun vs H1 => r vs H1 Q
/-- f(e, ..), f a built-in function -/
theorem pe_callB (hc : CallR X (.builtin id) r) (hg : Gl X x) (hm : X.mg x = none) (hv : bootBuiltins x = some (.builtin id)) (ha : PA X (e :: es) t) (hn : x ≠ "__name__" := by decide) (hdb : (x == ("__debug__" : Str)) = false := by decide)
    (he : starEach (e :: es) X.env = (false, eval e X.env) :: starEach es X.env := by rfl) (hpl : (backTo pos (starEach es X.env)).any (·.1) = false := by rfl) : PE X (.Call (.Name x p) (e :: es) [] pos) (tCB r t) := by
  intro pins s σ H Q I h
  refine wpAny_Call_Name_kw (ld_blt I hg hm hv ?_ hn hdb)
  exact PyProof.Rows.callWith_builtin1 (thn (ha pos pins s σ H _ I h) fun us s1 ⟨vs, H1, I1, r1, q1⟩ => hc pins s1 σ H1 vs us Q I1 r1 q1) he hpl
/-- T(e, ..), T a built-in type -/
theorem pe_callTy (hc : CallR X (.type T) r) (hg : Gl X x) (hm : X.mg x = none) (hv : bootBuiltins x = some (.type T)) (ha : PA X (e :: es) t) (hn : x ≠ "__name__" := by decide) (hdb : (x == ("__debug__" : Str)) = false := by decide)
    (he : starEach (e :: es) X.env = (false, eval e X.env) :: starEach es X.env := by rfl) (hpl : (backTo pos (starEach es X.env)).any (·.1) = false := by rfl) : PE X (.Call (.Name x p) (e :: es) [] pos) (tCB r t) := by
  intro pins s σ H Q I h
  refine wpAny_Call_Name_kw (ld_blt I hg hm hv ?_ hn hdb)
  exact PyProof.Rows.callWith_type1 (thn (ha pos pins s σ H _ I h) fun us s1 ⟨vs, H1, I1, r1, q1⟩ => hc pins s1 σ H1 vs us Q I1 r1 q1) he hpl
end
end L2

namespace HT
open PySem PyProof.Rows

section
open PySem.SeqAt
open PySem.AutoSeq1 (wpAny_loadPart')
open PySem.MeetsSeq PySem.MeetsSeq2 PySem.MeetsSeq3

end

section
variable {prog : Program} {w : World} {A : Around} {E : Value → Shared → Prop} {s : Shared}

/-- t + u, t not empty -/
theorem cat_tup {t b : Addr} {vs ws : List Value} {Q : Value → Shared → Prop} (ht : IsTup s.heap t vs.toArray) (hb : IsTup s.heap b ws.toArray) (hv : vs ≠ [])
    (h1 : ws = [] → Q (.ref t) s) (h2 : ws ≠ [] → Q (.ref s.heap.objs.size) { s with heap := s.heap.push { cls := .type "tuple", data := .seq (vs ++ ws).toArray } })
    (hsz : vs.length + ws.length ≤ sizeLine) : wpAny (model prog w) A (binaryOp .Add (.ref t) (.ref b)) Q E s := by
  obtain ⟨⟨cls, dd, data, sl⟩, ho, hc, n, hd⟩ := id ht
  obtain ⟨⟨cls2, dd2, data2, sl2⟩, ho2, hc2, n2, hd2⟩ := id hb
  simp only at hc hd hc2 hd2
  subst hc hd hc2 hd2
  have e : vs.toArray ++ ws.toArray = (vs ++ ws).toArray := by simp
  by_cases hw : ws = []
  · exact concat_meets ⟨_, ho, rfl⟩ ⟨_, ho2, rfl⟩ noFill_tuple_add seq_tuple_add PySem.F.slot_tuple_add PySem.F.entry_tuple_add (PySem.F.args_tuple_add_2 _ _)
      (tuple_addW1 t b vs.toArray ws.toArray n n2 dd dd2 sl sl2 (by simpa using hv) (by simp [hw])) ⟨ho, ho2, h1 hw⟩
  · refine concat_meets ⟨_, ho, rfl⟩ ⟨_, ho2, rfl⟩ noFill_tuple_add seq_tuple_add PySem.F.slot_tuple_add PySem.F.entry_tuple_add (PySem.F.args_tuple_add_2 _ _)
      (tuple_addW2 t b vs.toArray ws.toArray n n2 dd dd2 sl sl2 (by simpa using hv) (by simpa using hw) (by rw [List.size_toArray, List.size_toArray]; exact hsz)) ⟨ho, ho2, ?_⟩
    rw [e]
    exact h2 hw

/-- a slice's bound as a place among n (d where it is left out) -/
def sIx (n d : Nat) : Option Int → Nat
  | none => d
  | some v => if v < 0 then (v + (n : Int)).toNat else min v.toNat n
theorem sIx_nat (n d k : Nat) : sIx n d (some (k : Int)) = min k n := by
  show (if (k : Int) < 0 then ((k : Int) + (n : Int)).toNat else min (k : Int).toNat n) = min k n
  rw [if_neg (by omega), Int.toNat_natCast]
theorem sIx_le (n d : Nat) (hd : d ≤ n) (o : Option Int) : sIx n d o ≤ n := by
  cases o with
  | none => exact hd
  | some v =>
    show (if v < 0 then (v + (n : Int)).toNat else min v.toNat n) ≤ n
    by_cases hv : v < 0
    · rw [if_pos hv]; omega
    · rw [if_neg hv]; exact Nat.min_le_right _ _
theorem clip_eq (v : Int) (n d : Nat) : (if v < 0 then max (v + (n : Int)) 0 else min v (n : Int)) = ((sIx n d (some v) : Nat) : Int) := by
  show (if v < 0 then max (v + (n : Int)) 0 else min v (n : Int)) = (((if v < 0 then (v + (n : Int)).toNat else min v.toNat n) : Nat) : Int)
  by_cases hv : v < 0
  · simp only [if_pos hv]; omega
  · simp only [if_neg hv]; omega
theorem adjust_gen (lo hi : Option Int) (n : Nat) : Builtin.Slice.sliceAdjust lo hi 1 (n : Int) = (((sIx n 0 lo : Nat) : Int), ((sIx n n hi : Nat) : Int)) := by
  have h1 : ¬ ((1 : Int) < 0) := by omega
  unfold Builtin.Slice.sliceAdjust
  simp only [h1, if_false]
  refine Prod.ext ?_ ?_
  · cases lo with
    | none => rfl
    | some v => exact clip_eq v n 0
  · cases hi with
    | none => rfl
    | some v => exact clip_eq v n n
theorem places_gen (i j : Nat) : Builtin.Slice.slicePlaces (i : Int) (j : Int) 1 = j - i := by
  unfold Builtin.Slice.slicePlaces
  have h1 : (1 : Int) > 0 := by omega
  simp only [h1, if_true, Int.ediv_one]
  split <;> omega
theorem slicePart_ {v : Value} {o : Option Int} {Q : Option Int → Shared → Prop} (p : IsPart v o) (h : Q o s) : wpAny (model prog w) A (Builtin.Slice.slicePartIndex v) Q E s := by
  cases p with
  | none => exact slicePart_none h
  | int i t => exact slicePart_int h
theorem sliceApplied_gen {sl : Addr} {vl vu : Value} {lo hi : Option Int} {n : Nat} {Q : Int × Int × Nat → Shared → Prop} (hs : s.heap.IsSliceOf sl vl vu .none) (pl : IsPart vl lo) (pu : IsPart vu hi)
    (h : Q (((sIx n 0 lo : Nat) : Int), 1, sIx n n hi - sIx n 0 lo) s) : wpAny (model prog w) A (Builtin.Slice.sliceApplied (.ref sl) (pure (n : Int))) Q E s := by
  obtain ⟨os, hos, hcs, hds⟩ := id hs
  unfold Builtin.Slice.sliceApplied Builtin.Slice.sliceFields
  refine wpAny_bind (wpAny_bind (wpAny_field hos hds (x := vl) rfl (wpAny_bind (wpAny_field hos hds (x := vu) rfl (wpAny_bind (wpAny_field hos hds (x := .none) rfl (wpAny_pure ?_)))))))
  refine wpAny_bind (slicePart_none ?_)
  show wpAny _ _ (if ((1 : Int) == 0) = true then _ else _) _ _ s
  rw [if_neg (by decide)]
  refine wpAny_bind (slicePart_ pl (wpAny_bind (slicePart_ pu (wpAny_bind (wpAny_pure ?_)))))
  show wpAny _ _ (match Builtin.Slice.sliceAdjust lo hi 1 (n : Int) with | (lo, hi) => pure (lo, (1 : Int), Builtin.Slice.slicePlaces lo hi 1)) _ _ s
  rw [adjust_gen lo hi n]
  show wpAny _ _ (pure (((sIx n 0 lo : Nat) : Int), (1 : Int), Builtin.Slice.slicePlaces ((sIx n 0 lo : Nat) : Int) ((sIx n n hi : Nat) : Int) 1)) _ _ s
  rw [places_gen]
  exact wpAny_pure h
theorem pick_gen (xs : Array Value) (i k : Nat) : ((List.range k).filterMap fun (m : Nat) => xs[((i : Int) + (m : Int) * 1).toNat]?).toArray = ((xs.toList.drop i).take k).toArray := by
  have e : (fun (m : Nat) => xs[((i : Int) + (m : Int) * 1).toNat]?) = fun m => xs[i + m]? := by
    funext m
    have : ((i : Int) + (m : Int) * 1).toNat = i + m := by omega
    rw [this]
  rw [e]
  have := pick_run xs i k
  rw [List.filterMap_map] at this
  have e2 : ((fun x => xs[x]?) ∘ fun x => i + x) = fun m => xs[i + m]? := rfl
  rw [e2] at this
  rw [this]

theorem getItem_tuple_cut {t sl : Addr} {items : Array Value} {vl vu : Value} {lo hi : Option Int} {Q : Value → Shared → Prop} (ht : IsTup s.heap t items) (hs : s.heap.IsSliceOf sl vl vu .none) (pl : IsPart vl lo) (pu : IsPart vu hi)
    (hw : ¬ (sIx items.size 0 lo = 0 ∧ sIx items.size items.size hi = items.size))
    (h : Q (.ref s.heap.objs.size) { s with heap := s.heap.push { cls := .type "tuple", data := .seq ((items.toList.drop (sIx items.size 0 lo)).take (sIx items.size items.size hi - sIx items.size 0 lo)).toArray } })
    (hsz : items.size ≤ sizeLine) : wpAny (model prog w) A (getItem (.ref t) (.ref sl)) Q E s := by
  have htake : sizeOk (.seq ((items.toList.drop (sIx items.size 0 lo)).take (sIx items.size items.size hi - sIx items.size 0 lo)).toArray) := by
    show ((items.toList.drop (sIx items.size 0 lo)).take (sIx items.size items.size hi - sIx items.size 0 lo)).toArray.size ≤ sizeLine
    rw [List.size_toArray, List.length_take, List.length_drop, Array.length_toList]
    omega
  have hj : sIx items.size items.size hi ≤ items.size := sIx_le _ _ (Nat.le_refl _) hi
  obtain ⟨os, hos, hcs, hds⟩ := id hs
  have hTs : s.TypeIs (.ref sl) "slice" := ⟨os, hos, hcs⟩
  unfold getItem
  try with_reducible refine wpAny_holding ?_
  first | refine wpAny_bind (wpAny_pure ?_) | skip
  refine wpAny_bind (wpAny_sequenceKey ht.typeIs (by decide) ?_)
  refine wpAny_bind (wpAny_callSpecial?_slot (name := Str.ofString "__getitem__") ht.typeIs PyProof.Rows.slot_tuple_getitem
    (wpAny_call_entry PyProof.Rows.slot_tuple_getitem ht.typeIs entry_tuple_getitem ?_ (args_tuple_getitem _ _)))
  show wpAny _ _ (Builtin.Tuple.tupleItemsOf (.ref t) >>= _) _ _ s
  refine wpAny_bind (tupleItemsOf_ ht ?_)
  refine wpAny_bind (wpAny_typeOf hTs ?_)
  rw [if_pos (by decide)]
  refine wpAny_bind (sliceApplied_gen hs pl pu ?_)
  have hno : ¬ ((((sIx items.size 0 lo : Nat) : Int) == 0 && (1 : Int) == 1 && (sIx items.size items.size hi - sIx items.size 0 lo) == items.size) = true) := by
    intro q
    rw [Bool.and_eq_true, Bool.and_eq_true] at q
    have q1 : ((sIx items.size 0 lo : Nat) : Int) = 0 := eq_of_beq q.1.1
    have q2 : sIx items.size items.size hi - sIx items.size 0 lo = items.size := eq_of_beq q.2
    exact hw ⟨by omega, by omega⟩
  show wpAny _ _ (if (((sIx items.size 0 lo : Nat) : Int) == 0 && (1 : Int) == 1 && (sIx items.size items.size hi - sIx items.size 0 lo) == items.size) = true then _ else _) _ _ s
  rw [if_neg hno, pick_gen]
  first
    | exact wpAny_bind (m := Builtin.Tuple.tupleExact _) (wpAny_newObj_type (wpAny_pure ⟨_, rfl, wpAny_pure h⟩) htake)
    | exact wpAny_bind (m := Builtin.Tuple.tupleExact _) (wpAny_newObj_type (wpAny_bind (wpAny_pure (wpAny_pure ⟨_, rfl, wpAny_pure h⟩))) htake)
    | exact wpAny_bind (wpAny_bind (m := Builtin.Tuple.tupleExact _) (wpAny_newObj_type (wpAny_pure (wpAny_pure ⟨_, rfl, wpAny_pure h⟩)) htake))
    | exact wpAny_bind (wpAny_bind (m := Builtin.Tuple.tupleExact _) (wpAny_newObj_type (wpAny_pure ⟨_, rfl, wpAny_pure h⟩) htake))
end
end HT

namespace L2
open PySem PySem.Spec PyProof.Rows

abbrev TO := St → Hp → (Option Int → Hp → Prop) → Prop
/-- a slice's part (left out, or an int) -/
def PO (X : Cx) (e : Option Expr) (t : TO) : Prop :=
  ∀ (pins : List (Addr × Obj)) (s : Shared) (σ : St) (H : Hp) (Q : Option Int → Hp → Prop), Inv X pins σ H s → t σ H Q →
    wpAny (model X.prog X.w) X.A (evalPart e X.env) (fun u s' => ∃ o H', Inv X pins σ H' s' ∧ IsPart u o ∧ Q o H') X.xe s
def tNoPart : TO := fun _ H Q => Q none H
def tPart (t : TE) : TO := fun σ H Q => t σ H fun x H1 => ∃ i, x = .int i ∧ Q (some i) H1

section
variable {X : Cx} {e : Expr} {te : TE} {lo hi : Option Expr} {tl th : TO} {pos p2 : Pos}

theorem po_none : PO X none tNoPart := by
  intro pins s σ H Q I h
  rw [evalPart_none]
  exact wpAny_pure ⟨none, H, I, .none, h⟩
theorem po_some (h : PE X e te) : PO X (some e) (tPart te) := by
  intro pins s σ H Q I hw
  rw [evalPart_some]
  refine thn (h pins s σ H _ I hw) fun u s1 ⟨x, H1, I1, r1, q1⟩ => ?_
  obtain ⟨i, rfl, q⟩ := q1
  obtain ⟨t, rfl⟩ := r1
  exact ⟨some i, H1, I1, .int i t, q⟩

/-- what a slice of a value is, by values: the slice object stands at sl -/
def SlR (X : Cx) (r : V → Option Int → Option Int → Hp → VK → Prop) : Prop :=
  ∀ (pins : List (Addr × Obj)) (s : Shared) (σ : St) (H : Hp) (x : V) (v vl vu : Value) (lo hi : Option Int) (sl : Addr) (Q : VK), Inv X pins σ H s → RelV x v → s.heap.IsSliceOf sl vl vu .none → IsPart vl lo → IsPart vu hi → r x lo hi H Q →
    ∃ T id, typeLookup (.type T) "__getitem__" = pure (some (.builtin id)) ∧ s.TypeIs v T ∧ wpAny (model X.prog X.w) X.A (getItem v (.ref sl)) (EP X pins σ Q) X.xe s
theorem SlR.or {r r' : V → Option Int → Option Int → Hp → VK → Prop} (h : SlR X r) (h' : SlR X r') : SlR X (fun x lo hi H Q => r x lo hi H Q ∨ r' x lo hi H Q) := by
  intro pins s σ H x v vl vu lo hi sl Q I rx hs pl pu q
  rcases q with q | q
  · exact h pins s σ H x v vl vu lo hi sl Q I rx hs pl pu q
  · exact h' pins s σ H x v vl vu lo hi sl Q I rx hs pl pu q
def tSl (r : V → Option Int → Option Int → Hp → VK → Prop) (te : TE) (tl th : TO) : TE := fun σ H Q => te σ H fun x H1 => tl σ H1 fun l H2 => th σ H2 fun u H3 => r x l u H3 Q
/-- a[lo:hi], any a -/
theorem pe_slice {r : V → Option Int → Option Int → Hp → VK → Prop} (hr : SlR X r) (he : PE X e te) (hl : PO X lo tl) (hu : PO X hi th) : PE X (.Subscript e (.Slice lo hi none p2) pos) (tSl r te tl th) := by
  intro pins s σ H Q I h
  refine Subscript_ (thn (he pins s σ H _ I h) fun v s1 ⟨x, H1, I1, r1, q1⟩ => ?_)
  refine wpAny_Slice (thn (hl pins s1 σ H1 _ I1 q1) fun vl s2 ⟨l, H2, I2, pl, q2⟩ => thn (hu pins s2 σ H2 _ I2 q2) fun vu s3 ⟨u, H3, I3, pu, q3⟩ => ?_)
  rw [evalPart_none]
  refine wpAny_pure ?_
  have I4 : Inv X pins σ H3 { s3 with heap := s3.heap.push { cls := .type "slice", data := .fields #[vl, vu, .none] } } := I3.kept (t' := s3.toks) fun b ob q => Heap.get?_push_of_some _ q
  obtain ⟨T, id, hT, ht, hg⟩ := hr pins { s3 with heap := s3.heap.push { cls := .type "slice", data := .fields #[vl, vu, .none] } } σ H3 x v vl vu l u s3.heap.objs.size Q I4 r1 (Heap.IsSliceOf.new ..) pl pu q3
  show wpAny (model X.prog X.w) X.A (subscriptTail e (.Slice lo hi none p2) v (.ref s3.heap.objs.size)) (EP X pins σ Q) X.xe { s3 with heap := s3.heap.push { cls := .type "slice", data := .fields #[vl, vu, .none] } }
  exact tail_any (ops := [.ref s3.heap.objs.size, v]) ht hT hg (by with_unfolding_all rfl)

/-- the items of xs[lo:hi] -/
def cutV (xs : List V) (lo hi : Option Int) : List V := (xs.drop (HT.sIx xs.length 0 lo)).take (HT.sIx xs.length xs.length hi - HT.sIx xs.length 0 lo)
theorem cutV_length (xs : List V) (lo hi : Option Int) : (cutV xs lo hi).length ≤ xs.length := by
  unfold cutV
  rw [List.length_take, List.length_drop]
  omega
/-- t[lo:hi], not the whole of it (the whole would be t itself) -/
def rSlT (K : PySem.W.Frag) : V → Option Int → Option Int → Hp → VK → Prop := fun x lo hi H Q => ∃ a xs, x = .ref a ∧ SqT K H a xs ∧
  ¬ (HT.sIx xs.length 0 lo = 0 ∧ HT.sIx xs.length xs.length hi = xs.length) ∧ ∀ p, H p = none → Q (.ref p) (upd H p (.tup (cutV xs lo hi)))
theorem sl_tup : SlR X (rSlT X.K) := by
  intro pins s σ H x v vl vu lo hi sl Q I rx hs pl pu h
  obtain ⟨a, xs, rfl, hx, hw, q⟩ := h
  cases rx
  obtain ⟨its, r, ht, hz⟩ := I.tuple hx
  have hlen : its.toArray.size = xs.length := by rw [List.size_toArray]; exact r.length.symm
  refine ⟨"tuple", _, PyProof.Rows.slot_tuple_getitem.lookup, ht.typeIs, ?_⟩
  refine HT.getItem_tuple_cut ht hs pl pu (by rw [hlen]; exact hw) ?_ (by rw [hlen]; exact hz)
  rw [hlen]
  refine ⟨.ref s.heap.objs.size, _, I.laid (t' := s.toks) (o := .tup (cutV xs lo hi)) (fun b ob q => Heap.get?_push_of_some _ q) (Nat.le_refl _) ?_, rfl, q _ (I.hok.fresh (Nat.le_refl _))⟩
  exact ⟨Nat.le_trans (cutV_length xs lo hi) hz, _, (r.drop (HT.sIx xs.length 0 lo)).take (HT.sIx xs.length xs.length hi - HT.sIx xs.length 0 lo), IsTup.new _ _⟩

/-- t + u, t not empty: u empty gives t itself -/
def rCatT (K : PySem.W.Frag) : R2 := fun x y H Q => ∃ a b xs ys, x = .ref a ∧ y = .ref b ∧ SqT K H a xs ∧ SqT K H b ys ∧ xs ≠ [] ∧ xs.length + ys.length ≤ sizeLine ∧
  (ys = [] → Q (.ref a) H) ∧ (ys ≠ [] → ∀ p, H p = none → Q (.ref p) (upd H p (.tup (xs ++ ys))))
theorem Vals.nil_iff {xs : List V} {us : List Value} (r : Vals xs us) : us = [] ↔ xs = [] := by
  cases r with
  | nil => simp
  | cons _ _ => simp
theorem op_catT : OpR X (binaryOp .Add) (rCatT X.K) := by
  intro pins s σ H x y v u Q I rx ry h
  obtain ⟨a, b, xs, ys, rfl, rfl, ha, hb, hx, hz, q1, q2⟩ := h
  cases rx
  cases ry
  obtain ⟨its, r1, p1, _⟩ := I.tuple ha
  obtain ⟨its2, r2, p2, _⟩ := I.tuple hb
  refine HT.cat_tup p1 p2 (fun z => hx (r1.nil_iff.mp z)) (fun z => ⟨.ref a, H, I, rfl, q1 (r2.nil_iff.mp z)⟩) (fun z => ?_) (by rw [← r1.length, ← r2.length]; exact hz)
  refine ⟨.ref s.heap.objs.size, _, I.laid (t' := s.toks) (o := .tup (xs ++ ys)) (fun b ob q => Heap.get?_push_of_some _ q) (Nat.le_refl _) ?_, rfl, q2 (fun w => z (r2.nil_iff.mpr w)) _ (I.hok.fresh (Nat.le_refl _))⟩
  exact ⟨by rw [List.length_append]; exact hz, _, r1.append r2, IsTup.new _ _⟩
end
end L2

namespace L2
open PySem PySem.Spec PyProof.Rows

/-- the place that an index of any sign means -/
def ixN (n : Nat) (i : Int) : Option Nat := if 0 ≤ i then (if i < n then some i.toNat else none) else if -(n : Int) ≤ i then some (i + n).toNat else none
def atI {α : Type} (xs : List α) (i : Int) : Option α := (ixN xs.length i).bind fun j => xs[j]?
theorem ixN_seq {n : Nat} {i : Int} {j : Nat} (h : ixN n i = some j) : seqIndex? i n = some j ∧ j < n ∧ -(n : Int) ≤ i ∧ i < n := by
  unfold ixN at h
  by_cases h0 : 0 ≤ i
  · rw [if_pos h0] at h
    by_cases h1 : i < n
    · rw [if_pos h1] at h
      have e : i.toNat = j := Option.some.inj h
      exact ⟨by rw [seqIndex_of h0 h1, e], by omega, by omega, h1⟩
    · rw [if_neg h1] at h; cases h
  · rw [if_neg h0] at h
    by_cases h1 : -(n : Int) ≤ i
    · rw [if_pos h1] at h
      have e : (i + n).toNat = j := Option.some.inj h
      exact ⟨by rw [seqIndex_neg (by omega) h1, e], by omega, h1, by omega⟩
    · rw [if_neg h1] at h; cases h
theorem atI_get {α : Type} {xs : List α} {i : Int} {v : α} (h : atI xs i = some v) : ∃ j, seqIndex? i xs.length = some j ∧ xs[j]? = some v ∧ j < xs.length ∧ -(xs.length : Int) ≤ i ∧ i < xs.length := by
  unfold atI at h
  cases e : ixN xs.length i with
  | none => rw [e] at h; cases h
  | some j =>
    rw [e] at h
    obtain ⟨h1, h2, h3, h4⟩ := ixN_seq e
    exact ⟨j, h1, h, h2, h3, h4⟩
theorem atI_nat {α : Type} {xs : List α} {j : Nat} {v : α} (h : xs[j]? = some v) : atI xs (j : Int) = some v := by
  have hj : j < xs.length := (List.getElem?_eq_some_iff.mp h).1
  have e : ixN xs.length (j : Int) = some j := by
    unfold ixN
    rw [if_pos (by omega), if_pos (by omega)]; simp
  unfold atI; rw [e]; exact h
theorem atI_last {α : Type} (xs : List α) (v : α) : atI (xs ++ [v]) (-1) = some v := by
  have hl : (xs ++ [v]).length = xs.length + 1 := by simp
  have e : ixN (xs ++ [v]).length (-1) = some xs.length := by
    unfold ixN
    rw [hl, if_neg (by decide), if_pos (by omega)]
    congr 1
    omega
  unfold atI
  rw [e]
  show (xs ++ [v])[xs.length]? = some v
  simp

/-- what stands as an index of a plain subscript -/
def PlainIx (b : Expr) : Prop := ∀ o i, subscripted b false o i = operate [o, i] (getItem o i)
/-- a subscript by values -/
def IxR (X : Cx) (r : R2) : Prop :=
  ∀ (value slice : Expr) (pins : List (Addr × Obj)) (s : Shared) (σ : St) (H : Hp) (x y : V) (v u : Value) (Q : VK), Inv X pins σ H s → RelV x v → RelV y u → r x y H Q →
    subscripted slice false v u = operate [v, u] (getItem v u) → wpAny (model X.prog X.w) X.A (subscriptTail value slice v u) (EP X pins σ Q) X.xe s
/-- a call of a builtin's method by values: the receiver, the arguments -/
def MtR (X : Cx) (id : String) (r : V → List V → Hp → VK → Prop) : Prop :=
  ∀ (pins : List (Addr × Obj)) (s : Shared) (σ : St) (H : Hp) (x : V) (xs : List V) (v : Value) (us : List Value) (Q : VK), Inv X pins σ H s → RelV x v → Vals xs us → r x xs H Q →
    wpAny (model X.prog X.w) X.A (call (.builtin id) (v :: us)) (EP X pins σ Q) X.xe s
section
variable {X : Cx} {a b : Expr} {ta tb : TE} {pos : Pos}
theorem IxR.or {r r' : R2} (h : IxR X r) (h' : IxR X r') : IxR X (fun x y H Q => r x y H Q ∨ r' x y H Q) := by
  intro value slice pins s σ H x y v u Q I rx ry q hs
  rcases q with q | q
  · exact h value slice pins s σ H x y v u Q I rx ry q hs
  · exact h' value slice pins s σ H x y v u Q I rx ry q hs
theorem MtR.or {id : String} {r r' : V → List V → Hp → VK → Prop} (h : MtR X id r) (h' : MtR X id r') : MtR X id (fun x xs H Q => r x xs H Q ∨ r' x xs H Q) := by
  intro pins s σ H x xs v us Q I rx rs q
  rcases q with q | q
  · exact h pins s σ H x xs v us Q I rx rs q
  · exact h' pins s σ H x xs v us Q I rx rs q
/-- a[b] -/
theorem pe_ix {r : R2} (hr : IxR X r) (ha : PE X a ta) (hb : PE X b tb) (hs : PlainIx b) : PE X (.Subscript a b pos) (tOp r ta tb) := by
  intro pins s σ H Q I h
  exact Subscript_ (binT ha hb I h fun v u s2 x y H2 I2 rx ry q => hr a b pins s2 σ H2 x y v u Q I2 rx ry q (hs _ _))

def rIxL (K : PySem.W.Frag) : R2 := fun x y H Q => ∃ p xs i v, x = .ref p ∧ y = .int i ∧ SqL K H p xs ∧ atI xs i = some v ∧ Q v H
def rIxT (K : PySem.W.Frag) : R2 := fun x y H Q => ∃ p xs i v, x = .ref p ∧ y = .int i ∧ SqT K H p xs ∧ atI xs i = some v ∧ Q v H
def rIxS : R2 := fun x y H Q => ∃ z i c, x = .str z ∧ y = .int i ∧ z.length ≤ sizeLine ∧ atI z.cps.toList i = some c ∧ Q (.str ⟨#[c]⟩) H
theorem ix_list : IxR X (rIxL X.K) := by
  intro value slice pins s σ H x y v u Q I rx ry h hs
  obtain ⟨p, xs, i, z, rfl, rfl, hq, he, q⟩ := h
  cases rx
  obtain ⟨t, rfl⟩ := ry
  obtain ⟨its, r, pl, hz⟩ := I.list hq
  obtain ⟨j, h1, h2, h3, h4, h5⟩ := atI_get he
  obtain ⟨w, ew, rw'⟩ := r.get h2
  have hl := r.length
  have hn := line63
  have fin : EP X pins σ Q w s := ⟨z, H, I, rw', q⟩
  by_cases h0 : 0 ≤ i
  · have hj : i.toNat = j := by
      rw [seqIndex_of h0 h5] at h1
      exact Option.some.inj h1
    exact item_listR pl.isList h0 (by omega) (by rw [hj]; simpa using ew) fin hs
  · have hj : (i + (its.toArray.size : Int)).toNat = j := by
      rw [seqIndex_neg (by omega) h4] at h1
      rw [List.size_toArray, ← hl]
      exact Option.some.inj h1
    exact subscriptTail_builtinR (x := w) pl.isList.typeIs slot_list_getitem.lookup
      (wpAny_getItem_list_neg (Q := fun r s' => r = w ∧ EP X pins σ Q r s') pl.isList (by omega) (by rw [List.size_toArray] <;> omega) (by omega) (by rw [hj]; simpa using ew) ⟨rfl, fin⟩) hs
theorem ix_tup : IxR X (rIxT X.K) := by
  intro value slice pins s σ H x y v u Q I rx ry h hs
  obtain ⟨p, xs, i, z, rfl, rfl, hq, he, q⟩ := h
  cases rx
  obtain ⟨t, rfl⟩ := ry
  obtain ⟨its, r, pl, hz⟩ := I.tuple hq
  obtain ⟨j, h1, h2, h3, h4, h5⟩ := atI_get he
  obtain ⟨w, ew, rw'⟩ := r.get h2
  have hl := r.length
  have hn := line63
  have fin : EP X pins σ Q w s := ⟨z, H, I, rw', q⟩
  exact subscriptTail_builtinR (x := w) pl.typeIs slot_tuple_getitem.lookup
    (getItem_tuple (j := j) (Q := fun r s' => r = w ∧ EP X pins σ Q r s') pl (by omega) (by omega) (by rw [List.size_toArray, ← hl]; exact h1) (by simpa using ew) ⟨rfl, fin⟩) hs
theorem ix_str : IxR X rIxS := by
  intro value slice pins s σ H x y v u Q I rx ry h hs
  obtain ⟨z, i, c, rfl, rfl, hz, he, q⟩ := h
  obtain ⟨t, rfl⟩ := rx
  obtain ⟨t', rfl⟩ := ry
  obtain ⟨j, h1, h2, h3, h4, h5⟩ := atI_get he
  have hl : z.cps.toList.length = z.length := by simp [Str.length]
  rw [hl] at h1 h4 h5
  have hn := line63
  exact tail_any (typeIs_str s z t) slot_str_getitem.lookup (getItem_str (c := c) (by
    have e1 : decide (i < -(2 ^ 63 : Int)) = false := decide_eq_false (by omega)
    have e2 : decide (i ≥ 2 ^ 63) = false := decide_eq_false (by omega)
    rw [e1, e2, Bool.or_false]) (by rw [h1]; simpa using h2) ⟨.str ⟨#[c]⟩, H, I.tok _, ⟨_, rfl⟩, q⟩) hs
/-- list, tuple or str -/
def rIx (K : PySem.W.Frag) : R2 := fun x y H Q => rIxL K x y H Q ∨ rIxT K x y H Q ∨ rIxS x y H Q
theorem ix_seq : IxR X (rIx X.K) := ix_list.or (ix_tup.or ix_str)

/-- the list's object behind a store -/
theorem mapSeq_set (its : List Value) (n j : Nat) (u : Value) : Obj.mapSeq (·.setIfInBounds j u) { cls := .type "list", data := .seq its.toArray n } = { cls := .type "list", data := .seq (its.set j u).toArray n } := by
  simp [Obj.mapSeq]
theorem Inv.lst {pins : List (Addr × Obj)} {σ : St} {H : Hp} {s : Shared} {p : Addr} {xs : List V} (I : Inv X pins σ H s) (h : H p = some (.lst xs)) :
    ∃ (its : List Value) (n : Nat), Vals xs its ∧ s.heap.get? p = some { cls := .type "list", data := .seq its.toArray n } ∧ xs.length ≤ sizeLine := by
  obtain ⟨z, its, n, r, e⟩ := I.hok p _ h
  exact ⟨its, n, r, e, z⟩
/-- the list at p is written by an update of its object -/
theorem Inv.lstUpd {pins : List (Addr × Obj)} {σ : St} {H : Hp} {s : Shared} {p : Addr} {xs ys : List V} {its its' : List Value} {n n' : Nat} {f : Obj → Obj} (I : Inv X pins σ H s) (h : H p = some (.lst xs))
    (ho : s.heap.get? p = some { cls := .type "list", data := .seq its.toArray n }) (hf : f { cls := .type "list", data := .seq its.toArray n } = { cls := .type "list", data := .seq its'.toArray n' }) (r : Vals ys its') (hz : ys.length ≤ sizeLine) (t' : Nat) (ht : 0 < t' := by first | exact Nat.succ_pos _ | assumption | exact Inv.tk ‹_› | omega) :
    Inv X pins σ (upd H p (.lst ys)) { s with heap := s.heap.update p f, toks := t' } := by
  have e : (s.heap.update p f).get? p = some { cls := .type "list", data := .seq its'.toArray n' } := by
    rw [Heap.get?_update_self f ho (by rw [hf] <;> rfl), hf]
  refine I.write (x := p) (e := p) (by rw [h]; trivial) (.inl rfl) (fun b u hb q => (Heap.get?_update_other _ _ (Ne.symm hb)).trans q) ⟨_, e⟩ ?_
  exact ⟨hz, its', n', r, e⟩
def rSetL : V → V → V → Hp → (Hp → Prop) → Prop := fun o i v H Q => ∃ p xs k j, o = .ref p ∧ i = .int k ∧ H p = some (.lst xs) ∧ ixN xs.length k = some j ∧ Q (upd H p (.lst (xs.set j v)))
theorem set_list : PSet X rSetL := by
  intro pins s σ H o i v ov iv u Q I ro ri rv h
  obtain ⟨p, xs, k, j, rfl, rfl, hp, hj, q⟩ := h
  cases ro
  obtain ⟨t, rfl⟩ := ri
  obtain ⟨its, n, r, ho, hz⟩ := I.lst hp
  obtain ⟨h1, h2, h3, h4⟩ := ixN_seq hj
  have hl := r.length
  have hn := line63
  have I' : Inv X pins σ (upd H p (.lst (xs.set j v))) { s with heap := s.heap.update p (Obj.mapSeq (·.setIfInBounds j u)) } :=
    I.lstUpd hp ho (mapSeq_set its n j u) (r.set rv j) (by rw [List.length_set]; exact hz) s.toks
  by_cases h0 : 0 ≤ k
  · have hk : k.toNat = j := by
      rw [seqIndex_of h0 h4] at h1
      exact Option.some.inj h1
    exact PySem.W.ki_setAt ho h0 (by omega) (by rw [List.size_toArray, ← hl]; exact h4) (by rw [hk]; exact ⟨_, I', q⟩)
  · have hk : (k + (its.toArray.size : Int)).toNat = j := by
      rw [seqIndex_neg (by omega) h3] at h1
      rw [List.size_toArray, ← hl]
      exact Option.some.inj h1
    exact PySem.W.ki_setBack ho (by omega) (by rw [List.size_toArray, ← hl]; exact h3) (by omega) (by rw [hk]; exact ⟨_, I', q⟩)

theorem slice_bounds (lo hi : Option Int) (n : Nat) : (sliceBounds lo hi none n).1 = ((HT.sIx n 0 lo : Nat) : Int) ∧ (sliceBounds lo hi none n).2.1 = ((HT.sIx n n hi : Nat) : Int) ∧ (sliceBounds lo hi none n).2.2 = 1 := by
  refine ⟨?_, ?_, rfl⟩
  · cases lo with
    | none => simp [sliceBounds, HT.sIx]
    | some i =>
      simp only [sliceBounds, HT.sIx, Option.getD_none, show (1 : Int) > 0 by decide, if_true]
      by_cases h : i < 0
      · simp only [h, if_true] <;> omega
      · simp only [h, if_false] <;> omega
  · cases hi with
    | none => simp [sliceBounds, HT.sIx]
    | some i =>
      simp only [sliceBounds, HT.sIx, Option.getD_none, show (1 : Int) > 0 by decide, if_true]
      by_cases h : i < 0
      · simp only [h, if_true] <;> omega
      · simp only [h, if_false] <;> omega
theorem slicePick_cut (its : List Value) (lo hi : Option Int) : slicePick its.toArray lo hi none = ((its.drop (HT.sIx its.length 0 lo)).take (HT.sIx its.length its.length hi - HT.sIx its.length 0 lo)).toArray := by
  obtain ⟨h1, h2, h3⟩ := slice_bounds lo hi its.toArray.size
  unfold slicePick
  rw [h1, h2, h3]
  simp only [sliceRange_one, pick_run, List.size_toArray] <;> rfl
/-- xs[lo:hi] of a list: a new list -/
def rSlL (K : PySem.W.Frag) : V → Option Int → Option Int → Hp → VK → Prop := fun x lo hi H Q => ∃ a xs, x = .ref a ∧ SqL K H a xs ∧ ∀ p, H p = none → Q (.ref p) (upd H p (.lst (cutV xs lo hi)))
theorem sl_list : SlR X (rSlL X.K) := by
  intro pins s σ H x v vl vu lo hi sl Q I rx hs pl pu h
  obtain ⟨a, xs, rfl, hx, q⟩ := h
  cases rx
  obtain ⟨its, r, ht, hz⟩ := I.list hx
  have hlen := r.length
  refine ⟨"list", _, slot_list_getitem.lookup, ht.isList.typeIs, ?_⟩
  refine wpAny_getItem_list_slice ht.isList hs pl pu .none (by simp) ?_ (by rw [List.size_toArray] <;> omega)
  rw [slicePick_cut, ← hlen]
  refine ⟨.ref s.heap.objs.size, _, I.laid (t' := s.toks) (o := .lst (cutV xs lo hi)) (fun b ob q => Heap.get?_push_of_some _ q) (Nat.le_refl _) ?_, rfl, q _ (I.hok.fresh (Nat.le_refl _))⟩
  exact ⟨Nat.le_trans (cutV_length xs lo hi) hz, _, 0, (r.drop (HT.sIx xs.length 0 lo)).take (HT.sIx xs.length xs.length hi - HT.sIx xs.length 0 lo), Heap.get?_push_size _ rfl⟩

def flatV : V → Bool
  | .non => true
  | .bl _ => true
  | .int _ => true
  | .str _ => true
  | _ => false
/-- == of flat values -/
def eqV : V → V → Bool
  | .non, .non => true
  | .bl a, .bl b => a == b
  | .bl a, .int b => (if a then 1 else 0) == b
  | .int a, .bl b => a == (if b then 1 else 0)
  | .int a, .int b => a == b
  | .str a, .str b => a == b
  | _, _ => false
theorem eqAt_V {A : Around} {s : Shared} {y x : V} {u v : Value} (ry : RelV y u) (rx : RelV x v) (fy : flatV y = true) (fx : flatV x = true) : SeqAt.EqAt A s u v (eqV y x) := by
  cases y with
  | non =>
    cases ry
    cases x with
    | non => cases rx; exact SeqAt.EqAt.same _
    | bl b => cases rx; exact SeqAt.EqAt.none_bool b
    | int b => obtain ⟨t, rfl⟩ := rx; exact SeqAt.EqAt.none_int b t
    | str b => obtain ⟨t, rfl⟩ := rx; exact SeqAt.EqAt.none_str b t
    | _ => exact absurd (show false = true from fx) Bool.false_ne_true
  | bl a =>
    cases ry
    cases x with
    | non => cases rx; exact SeqAt.EqAt.bool_none a
    | bl b => cases rx; exact SeqAt.EqAt.bool_bool a b
    | int b => obtain ⟨t, rfl⟩ := rx; exact SeqAt.EqAt.bool_int a b t
    | str b => obtain ⟨t, rfl⟩ := rx; exact SeqAt.EqAt.bool_str a b t
    | _ => exact absurd (show false = true from fx) Bool.false_ne_true
  | int a =>
    obtain ⟨t', rfl⟩ := ry
    cases x with
    | non => cases rx; exact SeqAt.EqAt.int_none a t'
    | bl b => cases rx; exact SeqAt.EqAt.int_bool a t' b
    | int b => obtain ⟨t, rfl⟩ := rx; exact SeqAt.EqAt.int_int a t' b t
    | str b => obtain ⟨t, rfl⟩ := rx; exact SeqAt.EqAt.int_str a t' b t
    | _ => exact absurd (show false = true from fx) Bool.false_ne_true
  | str a =>
    obtain ⟨t', rfl⟩ := ry
    cases x with
    | non => cases rx; exact SeqAt.EqAt.str_none a t'
    | bl b => cases rx; exact SeqAt.EqAt.str_bool a t' b
    | int b => obtain ⟨t, rfl⟩ := rx; exact SeqAt.EqAt.str_int a t' b t
    | str b => obtain ⟨t, rfl⟩ := rx; exact SeqAt.EqAt.str_str a t' b t
    | _ => exact absurd (show false = true from fx) Bool.false_ne_true
  | _ => exact absurd (show false = true from fy) Bool.false_ne_true
/-- the items' answers, read off the values (a value's own answer does not lean on its token) -/
def eqU (x : V) (u : Value) : Bool := match u with
  | .none => eqV .non x
  | .bool b => eqV (.bl b) x
  | .int i _ => eqV (.int i) x
  | .str z _ => eqV (.str z) x
  | _ => false
theorem eqU_of {x y : V} {u : Value} (r : RelV y u) (f : flatV y = true) : eqU x u = eqV y x := by
  cases y with
  | non => cases r; rfl
  | bl b => cases r; rfl
  | int i => obtain ⟨t, rfl⟩ := r; rfl
  | str z => obtain ⟨t, rfl⟩ := r; rfl
  | _ => exact absurd (show false = true from f) Bool.false_ne_true
theorem any_eqU {x : V} : ∀ {xs : List V} {us : List Value}, Vals xs us → xs.all flatV = true → us.any (eqU x) = xs.any fun y => eqV y x
  | _, _, .nil, _ => rfl
  | y :: xs, u :: us, .cons r t, f => by
    rw [List.all_cons, Bool.and_eq_true] at f
    rw [List.any_cons, List.any_cons, eqU_of r f.1, any_eqU t f.2]
theorem mem_eqAt {A : Around} {s : Shared} {x : V} {v : Value} (rx : RelV x v) (fx : flatV x = true) : ∀ {xs : List V} {us : List Value}, Vals xs us → xs.all flatV = true → ∀ u ∈ us, SeqAt.EqAt A s u v (eqU x u)
  | _, _, .nil, _ => fun u hu => by cases hu
  | y :: xs, u :: us, .cons r t, f => fun u' hu => by
    rw [List.all_cons, Bool.and_eq_true] at f
    rcases List.mem_cons.mp hu with rfl | hu
    · rw [eqU_of r f.1]; exact eqAt_V r rx f.1 fx
    · exact mem_eqAt rx fx t f.2 u' hu
def inV (x : V) (xs : List V) : Bool := xs.any fun y => eqV y x
/-- x in a list or tuple of flat items -/
def rIn (K : PySem.W.Frag) (neg : Bool) : R2 := fun x y H Q => ∃ p xs, y = .ref p ∧ (SqL K H p xs ∨ SqT K H p xs) ∧ flatV x = true ∧ xs.all flatV = true ∧ Q (.bl (if neg then !inV x xs else inV x xs)) H
theorem op_in_seq : OpR X (compareOp .In) (rIn X.K false) := by
  intro pins s σ H x y v u Q I rx ry h
  obtain ⟨p, xs, rfl, hq, fx, fs, q⟩ := h
  cases ry
  rcases hq with hq | hq
  · obtain ⟨its, r, pl, hz⟩ := I.list hq
    refine SeqAt.in_listAt (eqU x) pl.isList (fun w hw => mem_eqAt rx fx r fs w (by simpa using hw)) ⟨.bl _, H, I, rfl, ?_⟩
    rw [show its.toArray.any (eqU x) = its.any (eqU x) by simp, any_eqU r fs]
    exact q
  · obtain ⟨its, r, pl, hz⟩ := I.tuple hq
    refine SeqAt.in_tupleAt (eqU x) pl (fun w hw => mem_eqAt rx fx r fs w (by simpa using hw)) ⟨.bl _, H, I, rfl, ?_⟩
    rw [show its.toArray.any (eqU x) = its.any (eqU x) by simp, any_eqU r fs]
    exact q
theorem op_notIn_seq : OpR X (compareOp .NotIn) (rIn X.K true) := by
  intro pins s σ H x y v u Q I rx ry h
  obtain ⟨p, xs, rfl, hq, fx, fs, q⟩ := h
  cases ry
  rcases hq with hq | hq
  · obtain ⟨its, r, pl, hz⟩ := I.list hq
    refine SeqAt.notIn_listAt (eqU x) pl.isList (fun w hw => mem_eqAt rx fx r fs w (by simpa using hw)) ⟨.bl _, H, I, rfl, ?_⟩
    rw [show its.toArray.any (eqU x) = its.any (eqU x) by simp, any_eqU r fs]
    exact q
  · obtain ⟨its, r, pl, hz⟩ := I.tuple hq
    refine SeqAt.notIn_tupleAt (eqU x) pl (fun w hw => mem_eqAt rx fx r fs w (by simpa using hw)) ⟨.bl _, H, I, rfl, ?_⟩
    rw [show its.toArray.any (eqU x) = its.any (eqU x) by simp, any_eqU r fs]
    exact q
theorem op_notIn_str : OpR X (compareOp .NotIn) (fun x y H Q => ∃ i j, x = .str i ∧ y = .str j ∧ Q (.bl (!(!(Builtin.Str.occurrences j i 0 j.length 1).isEmpty))) H) := by
  intro pins s σ H x y v u Q I rx ry h
  obtain ⟨i, j, rfl, rfl, q⟩ := h
  obtain ⟨t, rfl⟩ := rx
  obtain ⟨t', rfl⟩ := ry
  exact notIn_str ⟨.bl _, H, I, rfl, q⟩

theorem call_len_seq : CallR X (.builtin "len") (fun xs H Q => ∃ p ys, xs = [.ref p] ∧ (SqL X.K H p ys ∨ SqT X.K H p ys) ∧ Q (.int ys.length) H) := by
  intro pins s σ H xs us Q I r h
  obtain ⟨p, ys, rfl, hq, q⟩ := h
  obtain ⟨u, rfl, rx⟩ := vals1 r
  cases rx
  have hn := line63
  rcases hq with hq | hq
  · obtain ⟨its, r', pl, hz⟩ := I.list hq
    have hlen := r'.length
    exact Calls.call_len_list pl.isList (by simp only [List.size_toArray] <;> omega) ⟨.int ys.length, H, I.tok _, ⟨s.toks + 1, by rw [List.size_toArray, hlen]⟩, q⟩
  · obtain ⟨its, r', pl, hz⟩ := I.tuple hq
    have hlen := r'.length
    exact len_tuple pl (by simp only [List.size_toArray] <;> omega) ⟨.int ys.length, H, I.tok _, ⟨s.toks + 1, by rw [List.size_toArray, hlen]⟩, q⟩
theorem call_len_str : CallR X (.builtin "len") (fun xs H Q => ∃ z, xs = [.str z] ∧ z.length ≤ sizeLine ∧ Q (.int z.length) H) := by
  intro pins s σ H xs us Q I r h
  obtain ⟨z, rfl, hz, q⟩ := h
  obtain ⟨u, rfl, t, rfl⟩ := vals1 r
  have hn := line63
  exact len_str (by omega) ⟨.int z.length, H, I.tok _, ⟨_, rfl⟩, q⟩
theorem CallR.or {f : Value} {r r' : List V → Hp → VK → Prop} (h : CallR X f r) (h' : CallR X f r') : CallR X f (fun xs H Q => r xs H Q ∨ r' xs H Q) := by
  intro pins s σ H xs us Q I rs q
  rcases q with q | q
  · exact h pins s σ H xs us Q I rs q
  · exact h' pins s σ H xs us Q I rs q
theorem call_list_of : CallR X (.type "list") (fun xs H Q => ∃ p ys, xs = [.ref p] ∧ (SqL X.K H p ys ∨ SqT X.K H p ys) ∧ ∀ l, H l = none → Q (.ref l) (upd H l (.lst ys))) := by
  intro pins s σ H xs us Q I r h
  obtain ⟨p, ys, rfl, hq, q⟩ := h
  obtain ⟨u, rfl, rx⟩ := vals1 r
  cases rx
  have fin : ∀ (its : List Value), Vals ys its → ys.length ≤ sizeLine → ∀ (h' : Heap) (c' : Nat), (∀ b o', s.heap.get? b = some o' → h'.get? b = some o') →
      h'.get? s.heap.objs.size = some { cls := .type "list", dict := none, data := .seq its.toArray c', slots := #[] } → EP X pins σ Q (.ref s.heap.objs.size) { s with heap := h' } := fun its r' hz h' c' kp e =>
    ⟨.ref s.heap.objs.size, _, I.laid (t' := s.toks) kp (Nat.le_refl _) (show ObjOk X.prog X.w _ h' _ (.lst ys) from ⟨hz, its, c', r', e⟩), rfl, q _ (I.hok.fresh (Nat.le_refl _))⟩
  rcases hq with hq | hq
  · obtain ⟨its, r', pl, hz⟩ := I.list hq
    have hlen := r'.length
    obtain ⟨o, ho, hc, n, hd⟩ := pl.isList
    exact call_list_seq p (.inl rfl) ho hc hd (fun h' c' kp e => fin its r' hz h' c' kp e) (by simp only [List.size_toArray] <;> omega)
  · obtain ⟨its, r', pl, hz⟩ := I.tuple hq
    have hlen := r'.length
    obtain ⟨o, ho, hc, n, hd⟩ := pl
    exact call_list_seq p (.inr rfl) ho hc hd (fun h' c' kp e => fin its r' hz h' c' kp e) (by simp only [List.size_toArray] <;> omega)
theorem call_tuple_of : CallR X (.type "tuple") (fun xs H Q => ∃ p ys, xs = [.ref p] ∧ ((SqL X.K H p ys ∧ ∀ l, H l = none → Q (.ref l) (upd H l (.tup ys))) ∨ (SqT X.K H p ys ∧ Q (.ref p) H))) := by
  intro pins s σ H xs us Q I r h
  obtain ⟨p, ys, rfl, h⟩ := h
  obtain ⟨u, rfl, rx⟩ := vals1 r
  cases rx
  rcases h with ⟨hq, q⟩ | ⟨hq, q⟩
  · obtain ⟨its, r', pl, hz⟩ := I.list hq
    have hlen := r'.length
    refine call_tuple_list pl.isList (fun h' kp => ?_) (by simp only [List.size_toArray] <;> omega)
    have I1 : Inv X pins σ H { s with heap := h' } := I.kept (t' := s.toks) kp
    have I2 : Inv X pins σ (upd H h'.objs.size (.tup ys)) { s with heap := h'.push { cls := .type "tuple", data := .seq its.toArray } } :=
      I1.laid (t' := s.toks) (fun b o e => Heap.get?_push_of_some _ e) (Nat.le_refl _) (show ObjOk X.prog X.w _ _ _ (.tup ys) from ⟨hz, its, r', IsTup.new _ _⟩)
    exact ⟨.ref h'.objs.size, _, I2, rfl, q _ (I1.hok.fresh (Nat.le_refl _))⟩
  · obtain ⟨its, r', pl, hz⟩ := I.tuple hq
    exact call_tuple_same pl ⟨.ref p, H, I, rfl, q⟩

/-- the value is of that builtin type -/
def tyV (K : PySem.W.Frag) (T : String) (x : V) (H : Hp) : Prop := match x with
  | .str _ => T = "str"
  | .int _ => T = "int"
  | .ref p => (T = "list" ∧ ∃ xs, SqL K H p xs) ∨ (T = "tuple" ∧ ∃ o, K.lookup p = some o ∧ o.cls = .type "tuple" ∧ o.dict = none) ∨
      (T = "dict" ∧ ((∃ kvs, H p = some (.dK kvs)) ∨ ∃ kvs, H p = some (.dT kvs))) ∨ (T = "set" ∧ ∃ S n, H p = some (.set S n))
  | _ => False
theorem tyV_is {pins : List (Addr × Obj)} {σ : St} {H : Hp} {s : Shared} {T : String} {x : V} {v : Value} (I : Inv X pins σ H s) (r : RelV x v) (ty : tyV X.K T x H) :
    s.TypeIs v T ∧ ∀ a, v = .ref a → ∃ ob, s.heap.get? a = some ob ∧ ob.dict = none := by
  cases x with
  | str z =>
    obtain ⟨t, rfl⟩ := r
    cases (show T = "str" from ty)
    exact ⟨typeIs_str s z t, fun _ e => nomatch e⟩
  | int i =>
    obtain ⟨t, rfl⟩ := r
    cases (show T = "int" from ty)
    exact ⟨typeIs_int s i t, fun _ e => nomatch e⟩
  | ref p =>
    cases r
    rcases ty with ⟨rfl, xs, hq⟩ | ⟨rfl, o, hk, hc, hd⟩ | ⟨rfl, hk⟩ | ⟨rfl, S, n, hk⟩
    · obtain ⟨its, _, pl, _⟩ := I.list hq
      refine ⟨pl.isList.typeIs, fun a e => ?_⟩
      cases e
      obtain ⟨o, n, e, c, hd, _⟩ := pl
      exact ⟨o, e, hd⟩
    · refine ⟨⟨o, I.kIn p o hk, hc⟩, fun a e => ?_⟩
      cases e
      exact ⟨o, I.kIn _ o hk, hd⟩
    · have z : ∃ o, s.heap.get? p = some o ∧ o.ExactDict := by
        rcases hk with ⟨kvs, hk⟩ | ⟨kvs, hk⟩
        · obtain ⟨_, _, _, _, o, _, _, e, ex, _⟩ := I.hok p _ hk
          exact ⟨o, e, ex⟩
        · obtain ⟨_, _, _, _, o, _, _, e, ex, _⟩ := I.hok p _ hk
          exact ⟨o, e, ex⟩
      obtain ⟨o, e, ex⟩ := z
      refine ⟨⟨o, e, ex.1⟩, fun a e2 => ?_⟩
      cases e2
      exact ⟨o, e, ex.2.1⟩
    · obtain ⟨o, _, _, _, e, ex, _⟩ := I.hok p _ hk
      refine ⟨⟨o, e, ex.1⟩, fun a e2 => ?_⟩
      cases e2
      exact ⟨o, e, ex.2.1⟩
  | _ => exact False.elim ty
def tBM0 (K : PySem.W.Frag) (T : String) (r : V → List V → Hp → VK → Prop) (to : TE) : TE := fun σ H Q => to σ H fun x H1 => tyV K T x H1 ∧ r x [] H1 Q
def tBM (K : PySem.W.Frag) (T : String) (r : V → List V → Hp → VK → Prop) (to : TE) (t : TA) : TE := fun σ H Q => to σ H fun x H1 => tyV K T x H1 ∧ t σ H1 fun xs H2 => r x xs H2 Q
variable {o e : Expr} {es : List Expr} {to : TE} {t : TA} {name : Str} {apos cpos : Pos} {T id : String} {r : V → List V → Hp → VK → Prop}
theorem pe_bm (pa : PlainAttrs T) (slot : Slot T name id) (hty : typeOf (.builtin id) = pure (.type "method_descriptor")) (hm : MtR X id r) (ho : PE X o to) (ha : PA X (e :: es) t)
    (hbase : attributeBase o name X.env (eval o X.env) = eval o X.env := by rfl)
    (hfew : ((backTo cpos (starEach (e :: es) X.env)).all (fun x => !x.1) && (backToKw cpos (keywordEach [] X.env)).all (fun x => x.1.isSome)
      && decide ((e :: es).length + ([] : List Keyword).length + (if ([] : List Keyword).isEmpty then 0 else 1) < 30)) = true := by rfl)
    (hline : (apos.endLine == cpos.line) = true := by rfl) (hs : starEach (e :: es) X.env = (false, eval e X.env) :: starEach es X.env := by rfl) (hplain : (backTo cpos (starEach es X.env)).any (·.1) = false := by rfl) :
    PE X (.Call (.Attribute o name apos) (e :: es) [] cpos) (tBM X.K T r to t) := by
  intro pins s σ H Q I h
  refine wpAny_Call_method_late hbase hfew hline rfl (thn (ho pins s σ H _ I h) fun v s1 ⟨x, H1, I1, r1, ty, q1⟩ => ?_)
  obtain ⟨h1, h2⟩ := tyV_is I1 r1 ty
  refine ⟨T, id, pa, slot, hty, h1, h2, ?_⟩
  have hA := ha cpos pins s1 σ H1 _ I1 q1
  rw [hs] at hA ⊢
  refine Calls.callWith_builtin (by show (false || (backTo cpos (starEach es X.env)).any (·.1)) = false; rw [hplain] <;> rfl) (Calls.evalArgs_plain ?_)
  exact thn hA fun us s2 ⟨vs, H2, I2, r2, q2⟩ => hm pins s2 σ H2 x vs v us Q I2 r1 r2 q2
/- xs.append(e), list.index on a module's tuple .. are MtR facts of 06m -/
end
end L2

namespace L2
open PySem PySem.Spec PyProof.Rows

def MtM (X : Cx) (id : String) (r : V → List V → Hp → VK → Prop) : Prop :=
  ∀ (pins : List (Addr × Obj)) (s : Shared) (σ : St) (H : Hp) (x : V) (xs : List V) (v : Value) (us : List Value) (Q : VK), Inv X pins σ H s → RelV x v → Vals xs us → r x xs H Q →
    wpAny (model X.prog X.w) X.A (call (.builtin id) (v :: us)) (EP X pins σ Q) X.xe s

theorem Vals.one : ∀ {x : V} {us : List Value}, Vals [x] us → ∃ u, us = [u] ∧ RelV x u
  | _, _, .cons r .nil => ⟨_, rfl, r⟩
theorem Vals.two : ∀ {x y : V} {us : List Value}, Vals [x, y] us → ∃ u v, us = [u, v] ∧ RelV x u ∧ RelV y v
  | _, _, _, .cons r (.cons q .nil) => ⟨_, _, rfl, r, q⟩
theorem Vals.zero : ∀ {us : List Value}, Vals [] us → us = []
  | _, .nil => rfl
theorem Vals.dropLast {xs : List V} {us : List Value} (h : Vals xs us) : Vals xs.dropLast us.dropLast := by
  induction h with
  | nil => exact .nil
  | cons r t ih =>
    cases t with
    | nil => exact .nil
    | cons q t' => exact .cons r ih
theorem Vals.reverse {xs : List V} {us : List Value} (h : Vals xs us) : Vals xs.reverse us.reverse := by
  induction h with
  | nil => exact .nil
  | cons r t ih => rw [List.reverse_cons, List.reverse_cons]; exact Vals.append ih (.cons r .nil)
theorem Vals.rep {xs : List V} {us : List Value} (h : Vals xs us) : ∀ k : Nat, Vals (List.replicate k xs).flatten (List.replicate k us).flatten
  | 0 => .nil
  | k + 1 => by
    rw [List.replicate_succ, List.replicate_succ, List.flatten_cons, List.flatten_cons]
    exact Vals.append h (Vals.rep h k)
theorem foldl_rep (its : List Value) : ∀ (k : Nat) (acc : List Value),
    List.foldl (fun x1 x2 => x1 ++ x2) acc.toArray (List.replicate k its.toArray) = (acc ++ (List.replicate k its).flatten).toArray
  | 0, acc => by simp
  | k + 1, acc => by
    have e : acc.toArray ++ its.toArray = (acc ++ its).toArray := by simp
    have e2 : (acc ++ its) ++ (List.replicate k its).flatten = acc ++ (List.replicate (k + 1) its).flatten := by
      rw [List.replicate_succ, List.flatten_cons, List.append_assoc]
    rw [← e2, ← foldl_rep its k (acc ++ its), ← e, List.replicate_succ, List.foldl_cons]

section
variable {X : Cx} {pins : List (Addr × Obj)} {σ : St} {H : Hp} {s : Shared} {l b : Addr} {xs ys zs : List V}

theorem Inv.lset {its its' : List Value} {n : Nat} {f : Array Value → Array Value} {t' : Nat} (I : Inv X pins σ H s) (hH : H l = some (.lst xs))
    (e : s.heap.get? l = some { cls := .type "list", data := .seq its.toArray n }) (hf : f its.toArray = its'.toArray) (hv : Vals ys its') (hz : ys.length ≤ sizeLine) (ht : 0 < t' := by first | exact Nat.succ_pos _ | assumption | exact Inv.tk ‹_› | omega) :
    Inv X pins σ (upd H l (.lst ys)) { s with heap := s.heap.update l (Obj.mapSeq f), toks := t' } := by
  have q := PySem.IsL.update e f
  rw [hf] at q
  refine I.write (x := l) (e := l) (by rw [hH]; exact trivial) (.inl rfl) (fun b' u hb hu => (Heap.get?_update_other s.heap (Obj.mapSeq f) (Ne.symm hb)).trans hu) ⟨_, q⟩ ?_
  exact ⟨hz, its', _, hv, q⟩
theorem Inv.lnew {its : List Value} {t' : Nat} (I : Inv X pins σ H s) (hv : Vals ys its) (hz : ys.length ≤ sizeLine) (ht : 0 < t' := by first | exact Nat.succ_pos _ | assumption | exact Inv.tk ‹_› | omega) :
    Inv X pins σ (upd H s.heap.objs.size (.lst ys)) { s with heap := s.heap.push { cls := .type "list", data := .seq its.toArray }, toks := t' } :=
  I.laid (fun _ _ q => Heap.get?_push_of_some _ q) (Nat.le_refl _) ⟨hz, its, 0, hv, Heap.get?_push_size _ rfl⟩
theorem Inv.fresh (I : Inv X pins σ H s) : H s.heap.objs.size = none := I.hok.fresh (Nat.le_refl _)
theorem Inv.lstM (I : Inv X pins σ H s) (hH : H l = some (.lst xs)) : xs.length ≤ sizeLine ∧ ∃ (its : List Value) (n : Nat), Vals xs its ∧ xs.length = its.length ∧ s.heap.get? l = some { cls := .type "list", data := .seq its.toArray n } := by
  obtain ⟨z, its, n, r, e⟩ := I.hok l _ hH
  exact ⟨z, its, n, r, r.length, e⟩

theorem notLongL {n : Nat} (h : n ≤ sizeLine) : Builtin.List.listTooLong n = false := by
  unfold Builtin.List.listTooLong
  exact decide_eq_false (by omega)
end

section
variable {X : Cx}

def rAppend : V → List V → Hp → VK → Prop := fun x vs H Q => ∃ l xs y, x = .ref l ∧ vs = [y] ∧ H l = some (.lst xs) ∧ xs.length < sizeLine ∧ Q .non (upd H l (.lst (xs ++ [y])))
theorem mt_append : MtM X "list.append" rAppend := by
  intro pins s σ H x vs v us Q I rx rv h
  obtain ⟨l, xs, y, rfl, rfl, hH, hz, q⟩ := h
  cases rx
  obtain ⟨u, rfl, ru⟩ := rv.one
  obtain ⟨z, its, n, r, hl, e⟩ := I.lstM hH
  refine call_meets F.slot_list_append ⟨_, e, rfl⟩ F.entry_list_append (F.args_list_append_2 _ _) (PySem.list_append l its.toArray n u (by rw [List.size_toArray]; omega)) ⟨e, ?_⟩
  refine ⟨.non, _, I.lset (its' := its ++ [u]) hH e (by simp) (r.append (.cons ru .nil)) ?_, rfl, q⟩
  rw [List.length_append, List.length_singleton]
  omega

def rCat : R2 := fun x y H Q => ∃ l b xs zs, x = .ref l ∧ y = .ref b ∧ H l = some (.lst xs) ∧ H b = some (.lst zs) ∧ xs.length + zs.length ≤ sizeLine ∧ ∀ p, H p = none → Q (.ref p) (upd H p (.lst (xs ++ zs)))
theorem op_cat : OpR X (binaryOp .Add) rCat := by
  intro pins s σ H x y v u Q I rx ry h
  obtain ⟨l, b, xs, zs, rfl, rfl, hH, hB, hz, q⟩ := h
  cases rx
  cases ry
  obtain ⟨z, its, n, r, hl, e⟩ := I.lstM hH
  obtain ⟨z2, its2, n2, r2, hl2, e2⟩ := I.lstM hB
  refine PySem.P.add_list e e2 ?_ (by rw [List.size_toArray, List.size_toArray]; omega)
  have ea : its.toArray ++ its2.toArray = (its ++ its2).toArray := by simp
  rw [ea]
  exact ⟨.ref _, _, I.lnew (t' := s.toks) (r.append r2) (by rw [List.length_append]; omega), rfl, q _ I.fresh⟩
/-- a list times an int (a negative one is nothing) -/
def rRep : R2 := fun x y H Q => ∃ l k xs, x = .ref l ∧ y = .int k ∧ H l = some (.lst xs) ∧ -(2 ^ 63) ≤ k ∧ k < 2 ^ 63 ∧ xs.length * k.toNat ≤ sizeLine ∧
  ∀ p, H p = none → Q (.ref p) (upd H p (.lst (List.replicate k.toNat xs).flatten))
theorem len_rep {α : Type} (xs : List α) (k : Nat) : (List.replicate k xs).flatten.length = k * xs.length := by
  induction k with
  | zero => simp
  | succ k ih => rw [List.replicate_succ, List.flatten_cons, List.length_append, ih, Nat.succ_mul, Nat.add_comm]
theorem op_rep : OpR X (binaryOp .Mult) rRep := by
  intro pins s σ H x y v u Q I rx ry h
  obtain ⟨l, k, xs, rfl, rfl, hH, h1, h2, hz, q⟩ := h
  cases rx
  obtain ⟨t, rfl⟩ := ry
  obtain ⟨z, its, n, r, hl, e⟩ := I.lstM hH
  have hlen : its.toArray.size * k.toNat ≤ sizeLine := by rw [List.size_toArray, ← hl]; exact hz
  have hcap : ¬ its.toArray.size * k.toNat > (2 ^ 63 - 1) / 8 := by
    have : (sizeLine : Nat) ≤ (2 ^ 63 - 1) / 8 := by decide
    omega
  have hfit : ¬ (!Builtin.List.listFitsIndex k) = true := by
    rw [fitsIndex_both h1 h2]
    exact Bool.false_ne_true
  have hlong : ¬ Builtin.List.listTooLong (its.toArray.size * k.toNat) = true := by
    rw [notLongL hlen]
    exact Bool.false_ne_true
  have hnew : List.foldl (fun x1 x2 => x1 ++ x2) #[] (List.replicate (if its.toArray.isEmpty = true then 0 else k.toNat) its.toArray) = (List.replicate k.toNat its).flatten.toArray := by
    have f0 : ∀ m : Nat, List.foldl (fun x1 x2 => x1 ++ x2) #[] (List.replicate m its.toArray) = (List.replicate m its).flatten.toArray := fun m => by
      have := foldl_rep its m []
      rw [List.nil_append] at this
      exact this
    rw [f0]
    cases its with
    | nil => simp
    | cons a r' => rw [if_neg (by simp)]
  refine wpAny_binaryOp_repeat_ref (T := "list") (U := "int") (by decide) ⟨_, e, rfl⟩ (fun s' => typeIs_int s' k t) noFill_list_mul F.fills_int_mul F.slot_int_rmul repeat_list F.slot_int_index.lookup
    (call_meets F.slot_int_rmul (typeIs_int s k t) F.entry_int_rmul (F.args_int_rmul_2 _ _) (int___rmul___int_list k t l its.toArray n)
      ⟨e, rfl, ⟨_, e, rfl⟩, call_meets F.slot_list_mul ⟨_, e, rfl⟩ F.entry_list_mul (F.args_list_mul_2 _ _) (AutoListH.list___mul___list_int_3 l its.toArray n k t hfit hcap hlong) ⟨e, ?_⟩⟩)
  rw [hnew]
  exact ⟨.ref _, _, I.lnew (t' := s.toks) (r.rep k.toNat) (by rw [len_rep, Nat.mul_comm]; exact hz), rfl, q _ I.fresh⟩

end

section
variable {prog : Program} {w : World} {A : Around} {E : Value → Shared → Prop} {s : Shared}
end

section
variable {X : Cx}
end
end L2

namespace L2
open PySem PySem.Spec PyProof.Rows

section
variable {κ : Type} [DecidableEq κ]
def valV (kvs : List (κ × V)) (k : κ) : Option V := (kvs.find? fun kv => decide (kv.1 = k)).map (·.2)
/-- in its place, or at the end -/
def putK (kvs : List (κ × V)) (k : κ) (v : V) : List (κ × V) :=
  if (kvs.any fun kv => decide (kv.1 = k)) = true then kvs.map (fun kv => if kv.1 = k then (kv.1, v) else kv) else kvs ++ [(k, v)]
def dropK (kvs : List (κ × V)) (k : κ) : List (κ × V) := kvs.filter fun kv => decide (kv.1 ≠ k)

theorem valV_pos {p : κ × V} {r : List (κ × V)} {k : κ} (e : p.1 = k) : valV (p :: r) k = some p.2 := by simp [valV, List.find?_cons, e]
theorem valV_neg {p : κ × V} {r : List (κ × V)} {k : κ} (e : ¬ p.1 = k) : valV (p :: r) k = valV r k := by simp [valV, List.find?_cons, e]
theorem valV_any (k : κ) : ∀ kvs : List (κ × V), (kvs.any fun kv => decide (kv.1 = k)) = (valV kvs k).isSome
  | [] => rfl
  | p :: r => by
    rw [List.any_cons]
    by_cases e : p.1 = k
    · simp only [valV_pos e, decide_eq_true e, Bool.true_or, Option.isSome_some]
    · rw [valV_neg e, decide_eq_false e, Bool.false_or]; exact valV_any k r
theorem length_putK (kvs : List (κ × V)) (k : κ) (v : V) : (putK kvs k v).length ≤ kvs.length + 1 := by
  unfold putK
  split
  · rw [List.length_map]; omega
  · rw [List.length_append, List.length_cons, List.length_nil]; omega
theorem RelO.isSome_eq {o : Option V} {u : Option Value} (r : RelO o u) : o.isSome = u.isSome := by
  cases o with
  | none => cases u with
    | none => rfl
    | some _ => exact (show False from r).elim
  | some _ => cases u with
    | none => exact (show False from r).elim
    | some _ => rfl
theorem RelO.getD {o : Option V} {u : Option Value} {d : V} {d' : Value} (r : RelO o u) (rd : RelV d d') : RelV (o.getD d) (u.getD d') := by
  cases o with
  | none => cases u with
    | none => exact rd
    | some _ => exact (show False from r).elim
  | some _ => cases u with
    | none => exact (show False from r).elim
    | some _ => exact r

/-- raw tables of the same keys -/
theorem KV.val {kvs : List (κ × V)} {vs : List (κ × Value)} (r : KV kvs vs) (k : κ) : RelO (valV kvs k) (valueAt vs k) := by
  unfold KV at r
  induction r with
  | nil => exact True.intro
  | @cons p q ps qs h t ih =>
    obtain ⟨h1, h2⟩ := h
    by_cases e : p.1 = k
    · have e' : q.1 = k := h1.symm.trans e
      have b : valueAt (q :: qs) k = some q.2 := by simp [valueAt, List.find?_cons, e']
      rw [valV_pos e, b]; exact h2
    · have e' : ¬ q.1 = k := fun z => e (h1.trans z)
      have b : valueAt (q :: qs) k = valueAt qs k := by simp [valueAt, List.find?_cons, e']
      rw [valV_neg e, b]; exact ih
theorem KV.any {kvs : List (κ × V)} {vs : List (κ × Value)} (r : KV kvs vs) (k : κ) : (kvs.any fun kv => decide (kv.1 = k)) = vs.any fun kv => decide (kv.1 = k) := by
  unfold KV at r
  induction r with
  | nil => rfl
  | cons h t ih => rw [List.any_cons, List.any_cons, ih, h.1]
theorem KV.repl {kvs : List (κ × V)} {vs : List (κ × Value)} (r : KV kvs vs) (k : κ) {y : V} {u : Value} (ry : RelV y u) :
    KV (kvs.map fun kv => if kv.1 = k then (kv.1, y) else kv) (vs.map fun kv => if kv.1 = k then (kv.1, u) else kv) := by
  unfold KV at r ⊢
  induction r with
  | nil => exact .nil
  | @cons p q ps qs h t ih =>
    rw [List.map_cons, List.map_cons]
    refine .cons ?_ ih
    obtain ⟨h1, h2⟩ := h
    by_cases e : p.1 = k
    · rw [if_pos e, if_pos (h1.symm.trans e)]; exact ⟨h1, ry⟩
    · rw [if_neg e, if_neg (fun z => e (h1.trans z))]; exact ⟨h1, h2⟩
theorem KV.put {kvs : List (κ × V)} {vs : List (κ × Value)} (r : KV kvs vs) (k : κ) {y : V} {u : Value} (ry : RelV y u) : KV (putK kvs k y) (stored vs k u) := by
  unfold putK stored
  rw [r.any k]
  by_cases e : (vs.any fun kv => decide (kv.1 = k)) = true
  · rw [if_pos e, if_pos e]; exact r.repl k ry
  · rw [if_neg e, if_neg e]; exact Paired.snoc r ⟨rfl, ry⟩
theorem KV.drop {kvs : List (κ × V)} {vs : List (κ × Value)} (r : KV kvs vs) (k : κ) : KV (dropK kvs k) (without vs k) := by
  unfold KV at r ⊢
  unfold dropK without
  induction r with
  | nil => exact .nil
  | @cons p q ps qs h t ih =>
    obtain ⟨h1, h2⟩ := h
    rw [List.filter_cons, List.filter_cons]
    by_cases e : p.1 = k
    · have a : ¬ decide (p.1 ≠ k) = true := by simp [e]
      have b : ¬ decide (q.1 ≠ k) = true := by simp [h1.symm.trans e]
      rw [if_neg a, if_neg b]; exact ih
    · have e' : ¬ q.1 = k := fun z => e (h1.trans z)
      have a : decide (p.1 ≠ k) = true := by simp [e]
      have b : decide (q.1 ≠ k) = true := by simp [e']
      rw [if_pos a, if_pos b]; exact .cons ⟨h1, h2⟩ ih
theorem KV.keys {kvs : List (κ × V)} {vs : List (κ × Value)} (r : KV kvs vs) : kvs.map (·.1) = vs.map (·.1) := by
  unfold KV at r
  induction r with
  | nil => rfl
  | cons h t ih => rw [List.map_cons, List.map_cons, ih, h.1]
theorem KV.length {kvs : List (κ × V)} {vs : List (κ × Value)} (r : KV kvs vs) : kvs.length = vs.length := Paired.length r
end

theorem kV_is {P : Program} {w : World} {k : Key} {u : Value} (r : RelV (kV k) u) : (mixKind P w).is k u = true := by
  cases k with
  | inl i => obtain ⟨t, e⟩ := (show ∃ t, u = Value.int i t from r); subst e; exact mixKind_int P w i t
  | inr x => obtain ⟨t, e⟩ := (show ∃ t, u = Value.str x t from r); subst e; exact mixKind_str P w x t
theorem items_are {P : Program} {w : World} : ∀ {ks : List Key} {us : List Value}, Vals (ks.map kV) us → ItemsAre (mixKind P w) ks us
  | [], _, r => by rw [List.map_nil] at r; cases r; exact .nil
  | k :: ks, _, r => by
    rw [List.map_cons] at r
    cases r with
    | cons h t => exact .cons (kV_is h) (items_are t)

/-- raw entries of a dict with tuple keys -/
abbrev KT (H : Hp) : List (List Key × V) → List (List Key × Addr × Value) → Prop := Paired fun p q => p.1 = q.1 ∧ H q.2.1 = some (.tup (p.1.map kV)) ∧ RelV p.2 q.2.2
theorem KT.val {H : Hp} {kvs : List (List Key × V)} {xs : List (List Key × Addr × Value)} (r : KT H kvs xs) (k : List Key) : RelO (valV kvs k) ((atKey xs k).map (·.2)) := by
  induction r with
  | nil => exact True.intro
  | @cons p q ps qs h t ih =>
    obtain ⟨h1, _, h2⟩ := h
    by_cases e : p.1 = k
    · have e' : q.1 = k := h1.symm.trans e
      have b : atKey (q :: qs) k = some q.2 := by simp [atKey, List.find?_cons, e']
      rw [valV_pos e, b]; exact h2
    · have e' : ¬ q.1 = k := fun z => e (h1.trans z)
      have b : atKey (q :: qs) k = atKey qs k := by simp [atKey, List.find?_cons, e']
      rw [valV_neg e, b]; exact ih
theorem KT.repl {H : Hp} {kvs : List (List Key × V)} {xs : List (List Key × Addr × Value)} (r : KT H kvs xs) (k : List Key) {y : V} {u : Value} (ry : RelV y u) :
    KT H (kvs.map fun kv => if kv.1 = k then (kv.1, y) else kv) (xs.map (putAt k u)) := by
  induction r with
  | nil => exact .nil
  | @cons p q ps qs h t ih =>
    rw [List.map_cons, List.map_cons]
    refine .cons ?_ ih
    obtain ⟨h1, h2, h3⟩ := h
    unfold putAt
    by_cases e : p.1 = k
    · rw [if_pos e, if_pos (h1.symm.trans e)]; exact ⟨h1, h2, ry⟩
    · rw [if_neg e, if_neg (fun z => e (h1.trans z))]; exact ⟨h1, h2, h3⟩
theorem KT.put {H : Hp} {kvs : List (List Key × V)} {xs : List (List Key × Addr × Value)} (r : KT H kvs xs) (k : List Key) {b : Addr} {y : V} {u : Value} (hb : H b = some (.tup (k.map kV))) (ry : RelV y u) :
    KT H (putK kvs k y) (storedH xs k b u) := by
  have e : (kvs.any fun kv => decide (kv.1 = k)) = (atKey xs k).isSome := by
    rw [valV_any, (r.val k).isSome_eq, Option.isSome_map]
  unfold putK storedH
  rw [e]
  by_cases q : (atKey xs k).isSome = true
  · rw [if_pos q, if_pos q]; exact r.repl k ry
  · rw [if_neg q, if_neg q]; exact Paired.snoc r ⟨rfl, hb, ry⟩
theorem KT.keeps {H H' : Hp} {kvs : List (List Key × V)} {xs : List (List Key × Addr × Value)} (r : KT H kvs xs) (ht : ∀ b ys, H b = some (.tup ys) → H' b = some (.tup ys)) : KT H' kvs xs :=
  Paired.mapP r fun _ _ z => ⟨z.1, ht _ _ z.2.1, z.2.2⟩

section
variable {P : Program} {w : World} {H : Hp} {h : Heap} {a : Addr}
theorem rd_of {u : HO} (ok : HOk P w H h) (e : Rd H a u) : ObjOk P w H h a u := e.ok ok
theorem dk_rd {kvs : List (Key × V)} (ok : HOk P w H h) (e : Rd H a (.dK kvs)) : kvs.length ≤ sizeLine ∧ (a == sysModules) = false ∧ ∃ vs, KV kvs vs ∧ h.DictOf (mixKind P w) a vs :=
  show ObjOk P w H h a (.dK kvs) from rd_of ok e
theorem dk_of {kvs : List (Key × V)} (ok : HOk P w H h) (e : H a = some (.dK kvs)) : kvs.length ≤ sizeLine ∧ (a == sysModules) = false ∧ ∃ vs, KV kvs vs ∧ h.DictOf (mixKind P w) a vs := dk_rd ok (.inl e)
/-- a tracked tuple of ints and texts is a key -/
theorem key_of {ks : List Key} (ok : HOk P w H h) (e : H a = some (.tup (ks.map kV))) : (tupleKind (mixKind P w)).is h ks a := by
  obtain ⟨_, its, r, o, h1, h2, n, h3⟩ := (show ObjOk P w H h a (.tup (ks.map kV)) from ok a _ e)
  exact ⟨o, its.toArray, n, h1, h2, h3, by simpa using items_are r⟩
theorem dt_rd {kvs : List (List Key × V)} (ok : HOk P w H h) (e : Rd H a (.dT kvs)) : kvs.length ≤ sizeLine ∧ (a == sysModules) = false ∧
    ∃ xs, KT H kvs xs ∧ h.DictOfH (tupleKind (mixKind P w)) a xs := by
  obtain ⟨z, y, xs, r, o, es, ep, h1, h2, h3, h4, h5⟩ := (show ObjOk P w H h a (.dT kvs) from rd_of ok e)
  refine ⟨z, y, xs, r, o, es, ep, h1, h2, h3, h4, fun x hx => ?_, h5⟩
  have all : ∀ {l : List (List Key × V)} {m : List (List Key × Addr × Value)}, KT H l m → ∀ x ∈ m, (tupleKind (mixKind P w)).is h x.1 x.2.1 := by
    intro l m q
    induction q with
    | nil => intro x hx; exact nomatch hx
    | @cons p q ps qs hq t ih =>
      intro x hx
      rcases List.mem_cons.mp hx with e | hx
      · subst e
        exact key_of ok (by rw [← hq.1]; exact hq.2.1)
      · exact ih x hx
  exact all r x hx
theorem dt_of {kvs : List (List Key × V)} (ok : HOk P w H h) (e : H a = some (.dT kvs)) : kvs.length ≤ sizeLine ∧ (a == sysModules) = false ∧
    ∃ xs, KT H kvs xs ∧ h.DictOfH (tupleKind (mixKind P w)) a xs := dt_rd ok (.inl e)
end

/-- what the dict at a holds at the key y -/
def DGet (H : Hp) (a : Addr) (y : V) (r : Option V) : Prop :=
  (∃ kvs k, Rd H a (.dK kvs) ∧ y = kV k ∧ r = valV kvs k) ∨ ∃ kvs k b, Rd H a (.dT kvs) ∧ y = .ref b ∧ H b = some (.tup (k.map kV)) ∧ r = valV kvs k
/-- the heap behind a[y] = v -/
def DPut (H : Hp) (a : Addr) (y v : V) (H' : Hp) : Prop :=
  (∃ kvs k, H a = some (.dK kvs) ∧ y = kV k ∧ kvs.length < sizeLine ∧ H' = upd H a (.dK (putK kvs k v))) ∨
  ∃ kvs k b, H a = some (.dT kvs) ∧ y = .ref b ∧ H b = some (.tup (k.map kV)) ∧ kvs.length < sizeLine ∧ H' = upd H a (.dT (putK kvs k v))
theorem DGet.k {H : Hp} {a : Addr} {kvs : List (Key × V)} {k : Key} (e : H a = some (.dK kvs)) : DGet H a (kV k) (valV kvs k) := .inl ⟨kvs, k, .inl e, rfl, rfl⟩
theorem DGet.t {H : Hp} {a b : Addr} {kvs : List (List Key × V)} {k : List Key} (e : H a = some (.dT kvs)) (eb : H b = some (.tup (k.map kV))) : DGet H a (.ref b) (valV kvs k) := .inr ⟨kvs, k, b, .inl e, rfl, eb, rfl⟩
theorem DPut.k {H : Hp} {a : Addr} {kvs : List (Key × V)} {k : Key} {v : V} (e : H a = some (.dK kvs)) (hl : kvs.length < sizeLine) : DPut H a (kV k) v (upd H a (.dK (putK kvs k v))) := .inl ⟨kvs, k, e, rfl, hl, rfl⟩
theorem DPut.t {H : Hp} {a b : Addr} {kvs : List (List Key × V)} {k : List Key} {v : V} (e : H a = some (.dT kvs)) (eb : H b = some (.tup (k.map kV))) (hl : kvs.length < sizeLine) :
    DPut H a (.ref b) v (upd H a (.dT (putK kvs k v))) := .inr ⟨kvs, k, b, e, rfl, eb, hl, rfl⟩

section
variable {X : Cx} {pins : List (Addr × Obj)} {σ : St} {H : Hp} {s : Shared} {a : Addr} {y v : V} {u r : Value} {o : Option V} {A : Around} {E : Value → Shared → Prop}

/-- y in d -/
theorem d_in {Q : Value → Shared → Prop} (hu : A.units + 1 < cLine) (I : Inv X pins σ H s) (g : DGet H a y o) (ry : RelV y u) (h : ∀ s', Inv X pins σ H s' → Q (.bool o.isSome) s') :
    wpAny (model X.prog X.w) A (compareOp .In u (.ref a)) Q E s := by
  rcases g with ⟨kvs, k, e, ey, l⟩ | ⟨kvs, k, b, e, ey, eb, l⟩
  · subst ey
    obtain ⟨z, hd, vs, rel, dd⟩ := dk_rd I.hok e
    refine wpAny_in_of (kV_is ry) hd dd.mapOf ?_
    rw [← (rel.val k).isSome_eq, ← l]
    exact h _ (I.tok _)
  · subst ey
    cases (show u = Value.ref b from ry)
    obtain ⟨z, hd, xs, rel, dd⟩ := dt_rd I.hok e
    refine wpAny_in_heap (tupleKind_room_in1 hu) (key_of I.hok eb) hd dd ?_
    have q := (rel.val k).isSome_eq
    rw [Option.isSome_map] at q
    rw [← q, ← l]
    exact h _ (I.tok _)
theorem d_notIn {Q : Value → Shared → Prop} (hu : A.units + 1 < cLine) (I : Inv X pins σ H s) (g : DGet H a y o) (ry : RelV y u) (h : ∀ s', Inv X pins σ H s' → Q (.bool (!o.isSome)) s') :
    wpAny (model X.prog X.w) A (compareOp .NotIn u (.ref a)) Q E s := by
  rcases g with ⟨kvs, k, e, ey, l⟩ | ⟨kvs, k, b, e, ey, eb, l⟩
  · subst ey
    obtain ⟨z, hd, vs, rel, dd⟩ := dk_rd I.hok e
    refine wpAny_notIn_of (kV_is ry) hd dd.mapOf ?_
    rw [← (rel.val k).isSome_eq, ← l]
    exact h _ (I.tok _)
  · subst ey
    cases (show u = Value.ref b from ry)
    obtain ⟨z, hd, xs, rel, dd⟩ := dt_rd I.hok e
    refine wpAny_notIn_heap (tupleKind_room_in1 hu) (key_of I.hok eb) hd dd ?_
    have q := (rel.val k).isSome_eq
    rw [Option.isSome_map] at q
    rw [← q, ← l]
    exact h _ (I.tok _)
/-- a dict's object is replaced -/
theorem d_write {h' : Heap} {t' : Nat} {ob : HO} (I : Inv X pins σ H s) (mu : Mut (H a)) (hs : Heap.SameBut a s.heap h') (he : ∃ q, h'.get? a = some q) (new : ObjOk X.prog X.w (upd H a ob) h' a ob) (ht : 0 < t' := by first | exact Nat.succ_pos _ | assumption | exact Inv.tk ‹_› | omega) :
    Inv X pins σ (upd H a ob) { s with heap := h', toks := t' } :=
  I.write (x := a) (e := a) mu (.inl rfl) (fun b q hb z => (hs.2 b hb).trans z) he new
theorem dk_new {P : Program} {w : World} {H' : Hp} {h' : Heap} {kvs : List (Key × V)} {vs : List (Key × Value)} (z : kvs.length ≤ sizeLine) (hd : (a == sysModules) = false) (rel : KV kvs vs) (dd : h'.DictOf (mixKind P w) a vs) :
    ObjOk P w H' h' a (.dK kvs) := ⟨z, hd, vs, rel, dd⟩
/-- d[y] = v -/
theorem d_setItem {H' : Hp} {Q : Unit → Shared → Prop} (hu : A.units + 1 < cLine) (I : Inv X pins σ H s) (g : DPut H a y v H') (ry : RelV y u) (rv : RelV v r) (h : ∀ s', Inv X pins σ H' s' → Q () s') :
    wpAny (model X.prog X.w) A (setItem (.ref a) u r) Q E s := by
  rcases g with ⟨kvs, k, e, ey, l, eH⟩ | ⟨kvs, k, b, e, ey, eb, l, eH⟩
  · subst ey eH
    obtain ⟨z, hd, vs, rel, dd⟩ := dk_of I.hok e
    have hz : vs.length ≤ sizeLine := by rw [← rel.length]; exact z
    have hl : (putK kvs k v).length ≤ sizeLine := by have := length_putK kvs k v; omega
    refine wpAny_setItem_pairs (hsz := hz) (kV_is ry) dd fun h' dd' hs => h _ ?_
    have he : ∃ q, h'.get? a = some q := let ⟨q, _, _, hq, _⟩ := dd'; ⟨q, hq⟩
    exact d_write I (by rw [e]; exact True.intro) hs he (dk_new hl hd (rel.put k rv) dd')
  · subst ey eH
    cases (show u = Value.ref b from ry)
    obtain ⟨z, hd, xs, rel, dd⟩ := dt_of I.hok e
    have hz : xs.length ≤ sizeLine := by rw [← Paired.length rel]; exact z
    have hl : (putK kvs k v).length ≤ sizeLine := by have := length_putK kvs k v; omega
    refine wpAny_setItem_heap (hsz := hz) (tupleKind_room_in1 hu) (key_of I.hok eb) dd fun h' dd' hs => h _ ?_
    obtain ⟨q, es, ep, hq, h2, h3, h4, _, h5⟩ := dd'
    refine d_write I (by rw [e]; exact True.intro) hs ⟨q, hq⟩ ⟨hl, hd, _, (rel.put k eb rv).keeps fun c ys ec => ?_, q, es, ep, hq, h2, h3, h4, h5⟩
    rw [upd_ne (ne_of ec e (fun z => nomatch z))]
    exact ec
end

section
variable {X : Cx} {pins : List (Addr × Obj)} {σ : St} {H : Hp} {s : Shared} {a : Addr} {kvs : List (Key × V)} {k : Key} {u : Value} {A : Around} {E : Value → Shared → Prop}
/-- len(d) -/
theorem d_len {Q : Value → Shared → Prop} (I : Inv X pins σ H s) (e : Rd H a (.dK kvs)) (h : ∀ t s', Inv X pins σ H s' → Q (.int kvs.length t) s') : wpAny (model X.prog X.w) A (call (.builtin "len") [.ref a]) Q E s := by
  obtain ⟨z, hd, vs, rel, dd⟩ := dk_rd I.hok e
  refine call_len_dict hd dd (by rw [← rel.length]; rw [sizeLine_eq] at z; omega) ?_
  rw [← rel.length]
  exact h _ _ (I.tok _)
end

section
variable {X : Cx} {o i e value : Expr} {pos pos' tpos : Pos} {td ty tv : TE}
end

section
variable {X : Cx} {pos : Pos}
end

/-- a method call o.m(e) of a built-in, with one argument: what must be seen of the text -/
structure M1 (X : Cx) (o : Expr) (m : Str) (apos : Pos) (e : Expr) (cpos : Pos) : Prop where
  base : attributeBase o m X.env (eval o X.env) = eval o X.env
  few : ((backTo cpos (starEach [e] X.env)).all (fun x => !x.1) && (backToKw cpos (keywordEach [] X.env)).all (fun x => x.1.isSome)
    && decide (([e] : List Expr).length + ([] : List Keyword).length + (if ([] : List Keyword).isEmpty then 0 else 1) < 30)) = true
  line : (apos.endLine == cpos.line) = true
  trees : backTo cpos (starEach [e] X.env) = [(false, eval e X.env)]
section
variable {X : Cx} {pins : List (Addr × Obj)} {σ : St} {H : Hp} {s : Shared} {a : Addr} {y d : V} {u r : Value} {o : Option V} {A : Around} {E : Value → Shared → Prop}
end

section
variable {X : Cx} {o e f : Expr} {apos cpos : Pos} {td ty tx : TE}
end

section
variable {X : Cx} {pins : List (Addr × Obj)} {σ : St} {H : Hp} {s : Shared} {a : Addr} {kvs : List (Key × V)} {A : Around} {E : Value → Shared → Prop}
end

section
variable {X : Cx} {pins : List (Addr × Obj)} {σ : St} {H : Hp} {s : Shared} {a : Addr} {y : V} {u : Value} {A : Around} {E : Value → Shared → Prop}
end
end L2

namespace Att
open PySem PySem.W PySem.Calls PyProof.Rows

theorem ints_of_wellAll {P : Params} {h : Heap} : ∀ (ns : List Int) (vs : List Value), WellAll P h vs (ns.map WData.int) → IntsAre vs ns := by
  intro ns
  induction ns with
  | nil =>
    intro vs w
    rw [List.map_nil] at w
    cases w
    exact .nil
  | cons n ns ih =>
    intro vs w
    rw [List.map_cons] at w
    cases w with
    | cons a b =>
      cases a
      exact .cons _ _ (ih _ b)

theorem script_of {l : OpenLaw} {n : Nat} (hn : l.most = some n) {P : Params} {h : Heap} {args : List WData} {vals : List Value}
    (hpre : l.row.toRowW.claim.pre args = true) (hwl : WellAll P h vals args) :
    ∃ a vs ns, vals = [Value.ref a] ∧ args = [WData.list (ns.map WData.int)] ∧ h.get? a = some { cls := .type "list", data := .seq vs.toArray } ∧ IntsAre vs ns ∧ ns.length ≤ n := by
  have hsh : WShape.hasAll [] args [.list .int] = true := (pre_splitW hpre).1
  have hc : l.pre.holds [] { args := args } = true := (pre_splitW hpre).2
  obtain ⟨d, r, rfl, h1, h2⟩ := hasAllW_cons hsh
  obtain rfl := hasAllW_nil h2
  obtain ⟨xs, rfl, h3⟩ := hasW_list h1
  obtain ⟨ns, rfl⟩ := items_int h3
  have hlen : ns.length ≤ n := by
    unfold OpenLaw.pre at hc
    have h4 : (WTm.not (.lt (.lit (.int (n : Int))) (.len (.arg 0)))).holds [] { args := [.list (ns.map .int)] } = true := by
      have h4 := (holds_andW hc).1
      rw [hn] at h4
      exact h4
    have h5 := condW_of h4 (w_not (w_lt w_lit (w_len_list (w_arg rfl))))
    rw [List.length_map] at h5
    refine Nat.le_of_not_lt fun q => ?_
    have q' : (n : Int) < ((ns.length : Nat) : Int) := by omega
    first
      | (rw [decide_eq_true q'] at h5; exact absurd h5 (by decide))
      | (simp at h5; omega)
  cases hwl with
  | cons w1 w2 =>
    cases w2
    cases w1 with
    | list ho hall => exact ⟨_, _, ns, rfl, rfl, ho, ints_of_wellAll ns _ hall, hlen⟩

theorem post_true (l : OpenLaw) (args : List WData) : l.row.toRowW.claim.post args (.bool true) args = true :=
  postW_of (r := l.row.toRowW) (X := (true == true))
    (show WShape.has [] (.bool true) .bool = true by first | rfl | decide | simp [WShape.has, WShape.arms, WShape.armsAll])
    (show (WTm.eq .res (.lit (.bool true))).value [] { args := args, res := some (.bool true), after := args } = some (.bool (true == true)) from w_eq_bool (w_res rfl) w_lit) rfl

section
variable {prog : Program} {w : World} {A : Around} {E : Value → Shared → Prop} {s : Shared} {K : Frag}

end
end Att

namespace L2
open PySem PySem.Spec PyProof.Rows

theorem vals_ints : ∀ {vs : List Value} {ns : List Int}, IntsAre vs ns → Vals (ns.map V.int) vs
  | _, _, .nil => .nil
  | _, _, .cons n t h => .cons ⟨t, rfl⟩ (vals_ints h)

/-- nothing is tracked but the script, known to the object (or it is an object of the module) -/
def Only (H : Hp) : Prop := ∀ b, H b = none ∨ ∃ o xs, H b = some (.frz o (.lst xs))

/-- THE HEAD: the law's promise, at the heap behind the top. F, the promise of the law's def, may use that base is part of the heap (so K.In base, base.Ns mainGlobals mg stand in Mod) -/
theorem law_call {P : Program} {w : World} {K : PySem.W.Frag} {mg mb : Str → Option Value} {CX : CXT} {k : Nat} {fa a : Addr} {fd : FuncData} {x : Str} {sp : Sp} {s₁ : Shared} {vs : List Value} {ns : List Int}
    (KX : K.In s₁.heap) (hns : s₁.heap.Ns mainGlobals mg) (hb : s₁.heap.Ns builtinsNs mb) (hbb : ∀ x : Str, x ≠ "__name__" → mb x = bootBuiltins x) (hlim : s₁.heap.NoLimit) (hg : s₁.gens = #[]) (htk : 0 < s₁.toks)
    (ha : s₁.heap.get? a = some { cls := .type "list", data := .seq vs.toArray }) (hi : IntsAre vs ns) (hl : ns.length ≤ sizeLine) (hr : Room k callerA)
    (F : ∀ base : Heap, K.In base → base.Ns mainGlobals mg → FnOk P w K mg base CX k fa fd [x] sp) (hbind : ∀ (s : Shared) (u : Value), BindsTo s fd ⟨[u], []⟩ [(x, u)])
    (hsp : ∀ H : Hp, Only H → SqL K H a (ns.map V.int) → sp [.ref a] H (fun v _ => v = .bl true) fun _ _ _ => False)
    (hCX : ∀ H e s', CX [] H s₁ (fun _ _ _ => False) e s' → False) :
    codeAny (model P w) callerA (.call (.ref fa) ⟨[.ref a], []⟩) (fun r s' => r = .ok (.ret (.bool true)) ∧ OldK s₁.heap s'.heap ∧ s'.os = s₁.os ∧ AllBare s'.gens) s₁ := by
  have rv := vals_ints hi
  have lenV := hi.length
  -- from an abstract heap in which nothing but the script may be tracked
  have core : ∀ H : Hp, Only H → SqL K H a (ns.map V.int) → HOk P w H s₁.heap → (∀ b, H b ≠ none → b = a) → (H a ≠ none → K.lookup a = none) →
      codeAny (model P w) callerA (.call (.ref fa) ⟨[.ref a], []⟩) (fun r s' => r = .ok (.ret (.bool true)) ∧ OldK s₁.heap s'.heap ∧ s'.os = s₁.os ∧ AllBare s'.gens) s₁ := by
    intro H hO hS hok hA hK
    have base_of : ∀ {b : Addr} {o : Obj}, s₁.heap.get? b = some o → H b = none → (hidT s₁.heap H).get? b = some o := fun e n => hidT_get e n
    have noA : ∀ {b : Addr} {o : Obj} {es : Array DictEntry} {ep : Nat}, s₁.heap.get? b = some o → o.data = .dict es ep → H b = none := fun {b o es ep} e d => by
      cases q : H b with
      | none => rfl
      | some u =>
        have e' : b = a := hA b (by rw [q]; simp)
        subst e'
        rw [ha] at e; cases e
        have d' : Data.seq vs.toArray _ = Data.dict es ep := d
        cases d'
    have nsK : ∀ {b : Addr} {m : Str → Option Value}, s₁.heap.Ns b m → (hidT s₁.heap H).Ns b m := fun {b m} ⟨o, es, ep, e, d, r⟩ => ⟨o, es, ep, base_of e (noA e d), d, r⟩
    have hKb : K.In (hidT s₁.heap H) := fun b o e => base_of (KX b o e) (by
      cases q : H b with
      | none => rfl
      | some u =>
        have e' : b = a := hA b (by rw [q]; simp)
        subst e'
        rw [hK (by rw [q]; simp)] at e; cases e)
    have hM : Mod K mg (hidT s₁.heap H) := ⟨hKb, nsK hns, ⟨mb, nsK hb, hbb⟩, let ⟨mc, h1, h2⟩ := hlim; ⟨mc, nsK h1, h2⟩⟩
    have e0 : Env0 P w K mg (hidT s₁.heap H) callerA [] s₁ H := ⟨rfl, hM, fun b o e => of_hidT e, Nat.le_of_eq (hidT_size _ _), trivial, fun b hb => absurd (show b ∈ ([] : List Addr) from hb) (by simp), hok, .of_eq hg, htk⟩
    refine codeAny_mono ((F _ hKb (nsK hns)).run callerA [] s₁ H ⟨[.ref a], []⟩ [.ref a] [.ref a] _ _ hr e0 (hbind s₁ (.ref a)) (.cons rfl .nil) (hsp H hO hS)) fun r s' h => ?_
    cases r with
    | error e => exact (hCX H e s' h).elim
    | ok fl =>
      cases fl with
      | next => exact False.elim h
      | brk => exact False.elim h
      | cont => exact False.elim h
      | ret u =>
        obtain ⟨v, H', _, os, bare, un, hok', r', q⟩ := h
        have q' : v = .bl true := q
        subst q'
        obtain rfl : u = Value.bool true := r'
        refine ⟨rfl, OldK.of_keep fun b o e => ?_, os, bare⟩
        cases q : H b with
        | none => exact un.keep b o e q (by intro z; exact absurd (show b ∈ ([] : List Addr) from z) (by simp)) (by simp)
        | some u =>
          rcases hO b with z | ⟨ob, xs, z⟩
          · rw [q] at z; cases z
          · have z2 := un.frzs b ob _ z
            obtain ⟨e1, _⟩ := hok b _ z
            obtain ⟨e2, _⟩ := hok' b _ z2
            rw [e] at e1; cases e1
            exact e2
  cases hk : K.lookup a with
  | some o =>
    -- the script is one of the module's own objects
    have e := KX a o hk
    rw [ha] at e
    cases e
    refine core (fun _ => none) (fun _ => .inl rfl) (.inr ⟨_, vs.toArray, _, hk, rfl, rfl, rfl, by rw [List.size_toArray, lenV]; exact hl, by simpa using rv⟩) (fun b u z => by have z' : (none : Option HO) = some u := z; cases z') (fun b z => absurd rfl z) fun z => absurd rfl z
  | none =>
    refine core (fun b => if b = a then some (.frz { cls := .type "list", data := .seq vs.toArray } (.lst (ns.map V.int))) else none) (fun b => ?_) (.inl (.inr ⟨{ cls := .type "list", data := .seq vs.toArray }, if_pos rfl⟩)) (fun b u z => ?_) (fun b z => ?_) fun _ => hk
    · by_cases hb : b = a
      · exact .inr ⟨_, _, if_pos hb⟩
      · exact .inl (if_neg hb)
    · by_cases hb : b = a
      · have z' := (if_pos hb).symm.trans z
        cases z'
        subst hb
        exact ⟨ha, by rw [List.length_map]; exact hl, vs, _, rv, ha⟩
      · have z' := (if_neg hb).symm.trans z
        cases z'
    · by_cases hb : b = a
      · exact hb
      · exact absurd (if_neg hb) z
end L2

namespace L2
open PySem PySem.Spec PyProof.Rows

/-- the goal that k_head leaves (case hc), from the law's promise. F gives the function object fd (K's own) once, then the promise over every base -/
theorem ofPys_ints : ∀ ns : List Int, PySem.W.ofPys (ns.map PyData.int) = ns.map PySem.W.WData.int
  | [] => by simp [PySem.W.ofPys]
  | n :: ns => by simp only [List.map_cons, PySem.W.ofPys, PySem.W.ofPy]; rw [ofPys_ints ns]
theorem walk_of {l : PySem.W.OpenLaw} {n k : Nat} {q : Program} {loose : List Str} {XP : (Str → Option Value) → Heap → Prop} {as : List Addr} {z t : Nat} {d : DefRec} {K : Params → PySem.W.Frag} {CX : World → CXT} {sp : World → Sp} {x : Str}
    (hn : l.most = some n) (hn2 : n ≤ sizeLine) (hdf : d.params.defaults = []) (hr : Room k callerA) (hk : ∀ P, as = (K P).map (·.1)) (h0 : 0 < t)
    (F : ∀ (w : World) (mg : Str → Option Value) (fa : Addr) (h : Heap), (K w.params).In h → h.Ns mainGlobals mg → mg d.name = some (.ref fa) →
      ∃ fd : FuncData, (∀ (s : Shared) (u : Value), BindsTo s fd ⟨[u], []⟩ [(x, u)]) ∧
        ∀ base : Heap, (K w.params).In base → base.Ns mainGlobals mg → FnOk l.prog w (K w.params) mg base (CX w) k fa fd [x] (sp w))
    (hsp : ∀ (w : World) (H : Hp) (a : Addr) (ns : List Int), ns.length ≤ n → Only H → SqL (K w.params) H a (ns.map V.int) → sp w [.ref a] H (fun v _ => v = .bl true) fun _ _ _ => False)
    (hCX : ∀ (w : World) (H : Hp) (s : Shared) (e : Value) (s' : Shared), CX w [] H s (fun _ _ _ => False) e s' → False) :
    PySem.W.WalkX q loose XP (PySem.W.X.obsZ as) (PySem.W.X.valZ K z t) l.row.toRowW d [] (fun f vs => PySem.call f vs) := by
  intro w s₀ s₁ mg mb G y fa o pm cd doc dV kV ho hd hcd hD hmg hg args vals aa L hpre hlay hrd hwl hlo
  obtain rfl : dV = .none := PySem.W.Dflts.none hD hdf
  obtain rfl : kV = .none := PySem.W.Dflts.noKw hD
  obtain ⟨a, vs, ns, rfl, rfl, hobj, hints, hlen⟩ := Att.script_of hn hpre hwl
  obtain ⟨_, KI, _, htk⟩ := PySem.W.X.z_facts hk y
  have KX := PySem.W.InK.keeps w _ _ KI L.keeps
  have tk : 0 < s₁.toks := Nat.lt_of_lt_of_le h0 (PySem.W.X.script_toks (ns := ns) (a := a) (by rw [PySem.W.ofPy, ofPys_ints]; exact L) htk)
  obtain ⟨fd, hb, hF⟩ := F w mg fa _ KX G.T.g hmg
  refine PySem.W.enter_call (codeAny_mono (law_call KX G.T.g G.T.b G.T.builtins G.T.nolimit hg tk hobj hints (Nat.le_trans hlen hn2) hr hF hb (fun H hO hS => hsp w H a ns hlen hO hS) fun H e s' => hCX w H s₁ e s') fun r s' hq => ?_)
  obtain ⟨rfl, h2, h3, h4⟩ := hq
  exact ⟨.inl ⟨.bool true, .bool true, [], rfl, fun _ => rfl, .bool true, Att.post_true l _, fun _ => ⟨List.Pairwise.nil, fun _ hm => (nomatch hm)⟩⟩, h2, h3, h4⟩
end L2

/- THE LAST THEOREM (shape; LID, My.* are yours):
   My.Adr: a structure of the addresses that your layer names (classes, functions); My.Txt K t: a structure (Prop) of the equations over K;
   My.txt_mk : {K} {implicit addresses ..} (e1 : nsIn K mainGlobals "law" = some (some (.ref f))) (e2 : K.lookup f = some ⟨oc, od, .func (fnOf "law" "law" params body scope dV kV doc pm an cdv ct), sl⟩) (e3 : codeIn K cdv "law" = true) .. : ∃ t, My.Txt K t

(the tactic k_is has no namespace: write k_is) -/

namespace L2
open PySem PySem.Spec PyProof.Rows

def defArgs (s : Stmt) : Arguments := match s with
  | .FunctionDef _ a _ _ _ _ _ _ _ _ => a
  | _ => { posonlyargs := [], args := [], vararg := none, kwonlyargs := [], kw_defaults := [], kwarg := none, defaults := [] }
def defBody (s : Stmt) : List Stmt := match s with
  | .FunctionDef _ _ b _ _ _ _ _ _ _ => b
  | _ => []
def defScope (s : Stmt) : Scope := match s with
  | .FunctionDef _ _ _ _ _ _ sc _ _ _ => sc
  | _ => { kind := .function, names := [], isGenerator := false, isCoroutine := false }

abbrev CX0 : CXT := fun _ _ _ _ _ _ => False
abbrev E0 : XK := fun _ _ _ => False
theorem pass0 {X : Cx} : Passes CX0 X E0 := fun _ _ _ _ _ _ _ h => h.elim

structure Fun (K : PySem.W.Frag) (x qual : Str) (st : Stmt) (f : Addr) (fd : FuncData) : Prop where
  ex : ∃ (oc : Value) (od : Option Addr) (kV doc pm : Value) (an : Option Addr) (cdv ct : Value) (osl : Array (Option Value)),
    fd = PySem.W.fnOf x qual (defArgs st) (defBody st) (defScope st) .none kV doc pm an cdv ct ∧ K.lookup f = some ⟨oc, od, .func fd, osl⟩ ∧ PySem.W.codeIn K cdv qual = true
  kp : PySem.W.keepIn K (.ref f) = true
section
variable {P : Program} {w : World} {K : PySem.W.Frag} {mg : Str → Option Value} {base : Heap}
/-- THE RULE for a def: its body as a term of rules, and the reading of that term -/
theorem Fun.ok {x qual : Str} {st : Stmt} {f : Addr} {fd : FuncData} {N ps : List Str} {k : Nat} {sp : Sp} (F : Fun K x qual st f fd) (S : FnScope N ps (defScope st)) (len : ∀ vs H Q E, sp vs H Q E → vs.length = ps.length)
    (hbody : ∀ (cdv : Value) (A : Around) (outer : List Env) (s : Shared) (H : Hp) (vs : List V) (Q : VK) (E : XK), Room k (A.deeper (envOfC qual (defScope st) s.heap.objs.size f cdv)) → sp vs H Q E →
      ∃ t, PSs (cxOf CX0 P w K mg base N qual (defScope st) f cdv A outer s H E).nox (defBody st) t ∧ t { nx := fun _ H' => Q .non H', rt := Q } (start N vs) H) : FnOk P w K mg base CX0 (k + 1) f fd ps sp := by
  obtain ⟨oc, od, kV, doc, pm, an, cdv, ct, osl, rfl, lk, hcd⟩ := F.ex
  refine fn_of lk hcd S len fun A outer s H vs Q E hr hsp => ?_
  obtain ⟨t, h, q⟩ := hbody cdv A outer s H vs Q E hr hsp
  exact ⟨t, h.nox, q⟩
/-- how its arguments bind (no defaults): h is «fun _ _ _ _ _ _ us hl => match us, hl with | [_, _], _ => rfl», one _ a parameter -/
theorem Fun.binds {x qual : Str} {st : Stmt} {f : Addr} {fd : FuncData} {ps : List Str} (F : Fun K x qual st f fd)
    (h : ∀ (kV doc pm : Value) (an : Option Addr) (cdv ct : Value) (us : List Value), us.length = ps.length → bindArgs (PySem.W.fnOf x qual (defArgs st) (defBody st) (defScope st) .none kV doc pm an cdv ct) ⟨us, []⟩ = pure (ps.zip us)) : Binds K fd ps [] := by
  obtain ⟨oc, od, kV, doc, pm, an, cdv, ct, osl, rfl, lk, hcd⟩ := F.ex
  exact .all (h kV doc pm an cdv ct)
theorem fun_mk {x qual : Str} {st : Stmt} {f : Addr} {oc : Value} {od an : Option Addr} {osl : Array (Option Value)} {kV doc pm cdv ct : Value} (l : K.lookup f = some ⟨oc, od, .func (PySem.W.fnOf x qual (defArgs st) (defBody st) (defScope st) .none kV doc pm an cdv ct), osl⟩)
    (c : PySem.W.codeIn K cdv qual = true) (k : PySem.W.keepIn K (.ref f) = true) : Fun K x qual st f (PySem.W.fnOf x qual (defArgs st) (defBody st) (defScope st) .none kV doc pm an cdv ct) := ⟨⟨oc, od, kV, doc, pm, an, cdv, ct, osl, rfl, l, c⟩, k⟩
end
theorem hu_of {A : Around} {k : Nat} (hr : Room k A) : A.units + 1 < cLine := Nat.lt_of_le_of_lt (Nat.add_le_add_left (by decide : 1 ≤ 64) _) hr.units
section
variable {X : Cx}
theorem pv (i : Nat) {x : Str} {pos : Pos} (hN : X.N[i]? = some x := by rfl) (hv : Vis X.env.scope x := by first | exact Or.inl rfl | exact Or.inr (Or.inl rfl) | exact Or.inr (Or.inr rfl)) (hd : (x == ("__debug__" : Str)) = false := by decide)
    (hcd : (x == ("__classdict__" : Str)) = false := by decide) : PE X (.Name x pos) (tVar i) := pe_var hN hv hd hcd
end

theorem iteF {A B : Prop} (h : B) : if false = true then A else B := by
  rw [if_neg Bool.false_ne_true]
  exact h
theorem iteT {A B : Prop} (h : A) : if true = true then A else B := by
  rw [if_pos rfl]
  exact h
/-- all that was tracked is as it was -/
def Same (H H' : Hp) : Prop := ∀ b o, H b = some o → H' b = some o
theorem Same.refl (H : Hp) : Same H H := fun _ _ h => h
theorem Same.trans {H H1 H2 : Hp} (a : Same H H1) (b : Same H1 H2) : Same H H2 := fun c o h => b c o (a c o h)
theorem Same.free {H H' : Hp} (e : Same H H') {l : Addr} (h : H' l = Option.none) : H l = Option.none := by
  cases q : H l with
  | none => rfl
  | some o =>
    rw [e l o q] at h
    cases h
theorem Same.seq {K : PySem.W.Frag} {H H' : Hp} {a : Addr} {xs : List V} (e : Same H H') (h : SqL K H a xs) : SqL K H' a xs := by
  rcases h with (h | ⟨o, h⟩) | h
  · exact .inl (.inl (e _ _ h))
  · exact .inl (.inr ⟨o, e _ _ h⟩)
  · exact .inr h

section
variable {X : Cx}
/-- len of a dict -/
theorem call_lenD : CallR X (.builtin "len") (fun xs H Q => ∃ a kvs, xs = [V.ref a] ∧ H a = some (.dK kvs) ∧ Q (.int kvs.length) H) := by
  intro pins s σ H xs us Q I r h
  obtain ⟨a, kvs, rfl, ha, q⟩ := h
  obtain ⟨u, rfl, ru⟩ := vals1 r
  cases ru
  exact d_len I (.inl ha) fun t s' I' => ⟨.int kvs.length, H, I', ⟨t, rfl⟩, q⟩
end
section
variable {κ : Type} [DecidableEq κ]
end
end L2

namespace L2
open PySem PySem.Spec PyProof.Rows

theorem noE {α : Type} {t : Sem α} {Q : α → Shared → Prop} {M : Model} {A : Around} {E : Value → Shared → Prop} {s : Shared} (h : wpAny M A t Q (fun _ _ => False) s) : wpAny M A t Q E s :=
  wpAny_mono h (fun _ _ q => q) fun _ _ z => False.elim z

/-- the cells of the free names of a comprehension -/
theorem closure_ex {env : Env} : ∀ (names : List (Str × NameKind)) (acc : List (Str × Addr)), (∀ y ∈ names, y.2 = .free → ∃ c, env.cells.lookup y.1 = some c) → (∀ x c, acc.lookup x = some c → env.cells.lookup x = some c) →
    ∃ cl, (forIn names acc fun (x : Str × NameKind) (r : List (Str × Addr)) =>
        (if (x.2 == .free) = true then (do let a ← cellOf env x.1; pure (ForInStep.yield ((x.1, a) :: r))) else pure (ForInStep.yield r) : Sem (ForInStep (List (Str × Addr))))) = (pure cl : Sem (List (Str × Addr))) ∧
      (∀ x c, cl.lookup x = some c → env.cells.lookup x = some c) ∧ (∀ x, (∃ c, acc.lookup x = some c) → ∃ c, cl.lookup x = some c) ∧ ∀ y ∈ names, y.2 = .free → ∃ c, cl.lookup y.1 = some c
  | [], acc, _, h2 => ⟨acc, by rw [List.forIn_nil], h2, fun _ h => h, fun _ h => by cases h⟩
  | (n, k) :: r, acc, h1, h2 => by
    by_cases hk : k = .free
    · subst hk
      obtain ⟨c, hc⟩ := h1 (n, .free) List.mem_cons_self rfl
      obtain ⟨cl, e, q1, q2, q3⟩ := closure_ex r ((n, c) :: acc) (fun y hy => h1 y (List.mem_cons_of_mem _ hy)) (fun x d hd => by
        rw [List.lookup_cons] at hd
        cases hx : x == n with
        | true => rw [hx] at hd; cases hd; rw [beq_iff_eq.mp hx]; exact hc
        | false => rw [hx] at hd; exact h2 x d hd)
      refine ⟨cl, ?_, q1, fun x hx => q2 x ?_, fun y hy hf => ?_⟩
      · rw [List.forIn_cons]
        have e0 : cellOf env n = pure c := by unfold cellOf; rw [hc]
        simp only [beq_self_eq_true, if_true, e0]
        exact e
      · rw [List.lookup_cons]
        cases x == n with
        | true => exact ⟨c, rfl⟩
        | false => exact hx
      · rcases List.mem_cons.mp hy with rfl | hy
        · exact q2 n ⟨c, by rw [List.lookup_cons]; simp⟩
        · exact q3 y hy hf
    · obtain ⟨cl, e, q1, q2, q3⟩ := closure_ex r acc (fun y hy => h1 y (List.mem_cons_of_mem _ hy)) h2
      refine ⟨cl, ?_, q1, q2, fun y hy hf => ?_⟩
      · rw [List.forIn_cons]
        have hb : (k == NameKind.free) = false := by simpa using hk
        simp only [hb, Bool.false_eq_true, if_false]
        exact e
      · rcases List.mem_cons.mp hy with rfl | hy
        · exact absurd hf hk
        · exact q3 y hy hf

theorem closureFor_ex {env : Env} {scope : Scope} (h : ∀ y ∈ scope.names, y.2 = .free → ∃ c, env.cells.lookup y.1 = some c) :
    ∃ cl, closureFor scope env = pure cl ∧ (∀ x c, cl.lookup x = some c → env.cells.lookup x = some c) ∧ ∀ y ∈ scope.names, y.2 = .free → ∃ c, cl.lookup y.1 = some c := by
  obtain ⟨cl, e, q1, _, q3⟩ := closure_ex (env := env) scope.names [] h (fun x c hc => by simp at hc)
  refine ⟨cl, ?_, q1, q3⟩
  unfold closureFor
  simp only []
  rw [show (forIn scope.names ([] : List (Str × Addr)) fun (x : Str × NameKind) (r : List (Str × Addr)) =>
        (match x with | (name, kind) => if (kind == .free) = true then (do let a ← cellOf env name; pure (ForInStep.yield ((name, a) :: r))) else pure (ForInStep.yield r) : Sem (ForInStep (List (Str × Addr))))) = (pure cl : Sem (List (Str × Addr))) from e]
  rfl

theorem lookup_relabel_free {env : Env} : ∀ {names : List (Str × NameKind)} {x : Str}, names.lookup x = some .free →
    (names.map fun (n, k) => if (k == NameKind.free && env.scope.kind == .function && env.kindOf n == some .cell) then (n, NameKind.cell) else (n, k)).lookup x = some .cell ∨
    (names.map fun (n, k) => if (k == NameKind.free && env.scope.kind == .function && env.kindOf n == some .cell) then (n, NameKind.cell) else (n, k)).lookup x = some .free
  | [], _, h => by simp at h
  | (n, k) :: r, x, h => by
    have ih := @lookup_relabel_free env r x
    show List.lookup x ((if (k == NameKind.free && env.scope.kind == .function && env.kindOf n == some .cell) = true then (n, NameKind.cell) else (n, k)) :: _) = _ ∨ List.lookup x ((if (k == NameKind.free && env.scope.kind == .function && env.kindOf n == some .cell) = true then (n, NameKind.cell) else (n, k)) :: _) = _
    cases hx : x == n with
    | true =>
      simp only [List.lookup_cons, hx] at h
      cases h
      by_cases hc : (NameKind.free == NameKind.free && env.scope.kind == .function && env.kindOf n == some .cell) = true
      · rw [if_pos hc]; exact .inl (by simp only [List.lookup_cons, hx])
      · rw [if_neg hc]; exact .inr (by simp only [List.lookup_cons, hx])
    | false =>
      simp only [List.lookup_cons, hx] at h
      by_cases hc : (k == NameKind.free && env.scope.kind == .function && env.kindOf n == some .cell) = true
      · rw [if_pos hc]; simp only [List.lookup_cons, hx]; exact ih h
      · rw [if_neg hc]; simp only [List.lookup_cons, hx]; exact ih h
theorem lookup_relabel_back {env : Env} : ∀ {names : List (Str × NameKind)} {x : Str} {k : NameKind},
    (names.map fun (n, k) => if (k == NameKind.free && env.scope.kind == .function && env.kindOf n == some .cell) then (n, NameKind.cell) else (n, k)).lookup x = some k →
    names.lookup x = some k ∨ (k = .cell ∧ names.lookup x = some .free)
  | [], _, _, h => by simp at h
  | (n, j) :: r, x, k, h => by
    have ih := @lookup_relabel_back env r x k
    have h : List.lookup x ((if (j == NameKind.free && env.scope.kind == .function && env.kindOf n == some .cell) = true then (n, NameKind.cell) else (n, j)) :: _) = some k := h
    by_cases hc : (j == NameKind.free && env.scope.kind == .function && env.kindOf n == some .cell) = true
    · rw [if_pos hc] at h
      cases hx : x == n with
      | true =>
        simp only [List.lookup_cons, hx] at h ⊢
        cases h
        have : j = .free := by
          cases j <;> simp at hc ⊢
        exact .inr ⟨rfl, by rw [this]⟩
      | false => simp only [List.lookup_cons, hx] at h ⊢; exact ih h
    · rw [if_neg hc] at h
      cases hx : x == n with
      | true => simp only [List.lookup_cons, hx] at h ⊢; exact .inl h
      | false => simp only [List.lookup_cons, hx] at h ⊢; exact ih h

/-- one turn of a comprehension, any target -/
theorem codeAny_compLoop_gen {prog : Program} {w : World} {A : Around} {R : Result → Shared → Prop} {s : Shared} {elt target iter : Expr} {ifs : List Expr} {scope : Scope} {pos : Pos} {it acc : Value} {env : Env} (I : Nat → Shared → Prop)
    (turn : ∀ n s, I n s → wpAny (model prog w) A (pyNext it) (fun r s₁ => match r with
      | none => R (.ok .next) s₁
      | some v => wpAny (model prog w) A (letOwnedTupleGo target it v) (fun _ s₁' => wpAny (model prog w) A (assign target env v) (fun _ s₂ =>
          wpAny (model prog w) A (forIn ifs true fun c r => if r = true then do let ok ← isTrue c env (eval c env); pure (ForInStep.yield ok) else pure (ForInStep.yield r)) (fun ok s₃ =>
            if ok = true then wpAny (model prog w) A (eval elt env) (fun x s₄ =>
              wpAny (model prog w) A (call (.builtin "list.append") [acc, x]) (fun _ s₅ => ∃ m, m < n ∧ I m s₅) (notedBy (model prog w) A env fun e s' => R (.error e) s') s₄) (notedBy (model prog w) A env fun e s' => R (.error e) s') s₃
            else ∃ m, m < n ∧ I m s₃) (notedBy (model prog w) A env fun e s' => R (.error e) s') s₂) (notedBy (model prog w) A env fun e s' => R (.error e) s') s₁') (notedBy (model prog w) A env fun e s' => R (.error e) s') s₁)
      (notedBy (model prog w) A env fun e s' => R (.error e) s') s)
    (n : Nat) (h : I n s) :
    codeAny (model prog w) A (.compLoop (.ListComp elt [⟨target, iter, ifs, 0⟩] scope pos) 0 it acc env) R s := by
  refine codeAny_loop rfl I (fun n s hI => ?_) n h
  show wpAny _ A ((compTurn (.ListComp elt [⟨target, iter, ifs, 0⟩] scope pos) 0 it acc env).onRaise (fun x => do noteFrame x env; theTreesLotGoes x)) _ _ s
  refine wpAny_noted ?_
  rw [compTurn_list]
  refine wpAny_bind (wpAny_standAt (wpAny_bind (wpAny_mono (turn n s hI) (fun r s₁ h₁ => ?_) fun _ _ h' => h')))
  cases r with
  | none => exact wpAny_pure h₁
  | some v =>
    refine wpAny_bind (wpAny_mono h₁ (fun _ s₁' h₁' => ?_) fun _ _ h' => h')
    refine wpAny_bind (wpAny_mono h₁' (fun _ s₂ h₂ => wpAny_bind (wpAny_mono h₂ (fun ok s₃ h₃ => ?_) fun _ _ h' => h')) fun _ _ h' => h')
    cases ok with
    | false => exact wpAny_pure ⟨rfl, h₃⟩
    | true =>
      exact wpAny_bind (wpAny_bind (wpAny_mono h₃ (fun x s₄ h₄ => wpAny_bind (wpAny_mono h₄ (fun _ s₅ h₅ => wpAny_pure (wpAny_pure ⟨rfl, h₅⟩)) fun _ _ h' => h')) fun _ _ h' => h'))

def blk (X : Cx) (N : List Str) (scope : Scope) (cl : List (Str × Addr)) (C : Addr) (s₂ : Shared) (H₂ : Hp) (fp : List Addr) (pn : List (Addr × Obj)) : Cx :=
  { X with N := N, s₀ := s₂, H₀ := H₂, env := compEnvC scope cl C X.env, outer := X.stack, stack := X.stack, ex := fp, fn := fun _ => false, pn := pn, xe := fun _ _ => False }
/-- the block's names: the free ones by their places outside, the own ones none -/
def grab (fr : List (Option Nat)) (σ : St) : St := fr.map fun o => match o with | some i => (σ[i]?).join | none => none
theorem grab_get {fr : List (Option Nat)} {σ : St} {j : Nat} {v : V} (h : (grab fr σ)[j]? = some (some v)) : ∃ i, fr[j]? = some (some i) ∧ σ[i]? = some (some v) := by
  unfold grab at h
  rw [List.getElem?_map] at h
  cases e : fr[j]? with
  | none => rw [e] at h; cases h
  | some o =>
    rw [e] at h
    cases o with
    | none => cases h
    | some i =>
      refine ⟨i, rfl, ?_⟩
      have h' : (σ[i]?).join = some v := Option.some.inj h
      cases e2 : σ[i]? with
      | none => rw [e2] at h'; cases h'
      | some x => rw [e2] at h'; cases x with
        | none => cases h'
        | some y => cases h'; rfl
/-- a target leaves the free names as they are -/
def TgOk (fr : List (Option Nat)) (g : TG) : Prop := ∀ (x : V) (σ : St) (H : Hp) (Q : St → Hp → Prop), g x σ H Q → g x σ H fun σ2 H2 => Q σ2 H2 ∧ ∀ (j i : Nat), fr[j]? = some (some i) → σ2[j]? = σ[j]?
theorem tg_name {fr : List (Option Nat)} {i : Nat} (h : fr[i]? = some none := by rfl) : TgOk fr (gName i) := fun x σ H Q q => ⟨q, fun j k hj => by
  have : i ≠ j := by rintro rfl; rw [h] at hj; cases hj
  rw [List.getElem?_set_ne this]⟩
/-- the tests of a comprehension: none, or one -/
def PTs (X : Cx) (ifs : List Expr) (t : TT) : Prop :=
  ∀ (pins : List (Addr × Obj)) (s : Shared) (σ : St) (H : Hp) (Q : Bool → Hp → Prop), Inv X pins σ H s → t σ H Q →
    wpAny (model X.prog X.w) X.A (forIn ifs true fun c r => if r = true then do let ok ← isTrue c X.env (eval c X.env); pure (ForInStep.yield ok) else pure (ForInStep.yield r)) (TP X pins σ Q) X.xe s
def tTT : TT := fun _ H Q => Q true H
theorem pts_nil {X : Cx} : PTs X [] tTT := fun _ _ _ H _ I h => wpAny_tests_nil ⟨H, I, h⟩
theorem pts_one {X : Cx} {c : Expr} {t : TT} (h : PT X c t) : PTs X [c] t := fun pins s σ H Q I hq => wpAny_tests_one (h pins s σ H Q I hq)

structure CompScope (X : Cx) (scope : Scope) (N : List Str) (fr : List (Option Nat)) : Prop where
  kind : scope.kind = .function
  nocell : ∀ y ∈ scope.names, y.2 ≠ .cell
  names : ∀ y ∈ scope.names, y.2 = .local → scope.names.lookup y.1 = some .local
  free : ∀ y ∈ scope.names, y.2 = .free → X.env.scope.names.lookup y.1 = some .cell ∨ X.env.scope.names.lookup y.1 = some .free
  len : N.length = fr.length
  at_ : ∀ (j i : Nat) (x : Str), fr[j]? = some (some i) → N[j]? = some x → X.N[i]? = some x ∧ scope.names.lookup x = some .free

def compChk (osc : Scope) (ON : List Str) (scope : Scope) (N : List Str) (fr : List (Option Nat)) : Bool :=
  decide (scope.kind = .function) && scope.names.all (fun y => decide (y.2 ≠ .cell)) && scope.names.all (fun y => decide (y.2 ≠ .local) || decide (scope.names.lookup y.1 = some .local)) &&
  scope.names.all (fun y => decide (y.2 ≠ .free) || decide (osc.names.lookup y.1 = some .cell) || decide (osc.names.lookup y.1 = some .free)) && decide (N.length = fr.length) &&
  (fr.zip N).all (fun p => match p.1 with | some i => decide (ON[i]? = some p.2) && decide (scope.names.lookup p.2 = some .free) | none => true)
theorem comp_scope {X : Cx} {osc : Scope} {ON : List Str} {scope : Scope} {N : List Str} {fr : List (Option Nat)} (h : compChk osc ON scope N fr = true) (e1 : X.env.scope = osc) (e2 : X.N = ON) : CompScope X scope N fr := by
  subst e1 e2
  unfold compChk at h
  simp only [Bool.and_eq_true, List.all_eq_true, Bool.or_eq_true, decide_eq_true_eq] at h
  obtain ⟨⟨⟨⟨⟨h1, h2⟩, h3⟩, h4⟩, h5⟩, h6⟩ := h
  refine ⟨h1, h2, fun y hy e => (h3 y hy).resolve_left fun z => z e, fun y hy e => ?_, h5, fun j i x e1 e2 => ?_⟩
  · rcases h4 y hy with (z | z) | z
    · exact absurd e z
    · exact .inl z
    · exact .inr z
  · have hm : (some i, x) ∈ fr.zip N := by
      apply List.mem_of_getElem? (i := j)
      rw [List.getElem?_zip_eq_some]
      exact ⟨e1, e2⟩
    have := h6 _ hm
    simpa using this

/-- the reading of a comprehension: W by the turn, a measure, what was gathered, the heap -/
def tComp (fr : List (Option Nat)) (wi : TI) (g : TG) (tt : TT) (te : TE) : TE := fun σ H Q => wi σ H fun J H1 =>
  ∃ W : Nat → Nat → List V → Hp → Prop, (∃ m, W 0 m [] H1) ∧ ∀ i m ys H, W i m ys H → ys.length ≤ sizeLine ∧
    ((J.stop i H ∧ ∀ p, H p = none → Q (.ref p) (upd H p (.lst ys))) ∨
     (J.go i H ∧ ∃ NN : List V → Hp → Prop, (∀ ys' H', NN ys' H' → ∃ m', m' < m ∧ W (i + 1) m' ys' H') ∧ ∀ x H', J.yld i H x H' → g x (grab fr σ) H' fun σ2 H2 => tt σ2 H2 fun b H3 =>
        if b = true then te σ2 H3 fun y H4 => NN (ys ++ [y]) H4 else NN ys H3))

/-- the block's end: the list is adopted -/
structure BlkEnd (X : Cx) (pins : List (Addr × Obj)) (σ : St) (Q : VK) (C D : Addr) (s' : Shared) : Prop where
  ex : ∃ (ys : List V) (H : Hp), H D = none ∧ (∃ m, s'.heap.Ns C m) ∧ D ≠ C ∧ C ≠ X.env.locals ∧ (∀ x c, X.env.cells.lookup x = some c → c ≠ C) ∧ (∀ p ∈ X.pn ++ pins, p.1 ≠ C) ∧ X.s₀.heap.objs.size ≤ C ∧ C ∉ X.fs ∧
    (upd H D (.lst ys)) C = none ∧
    (∀ h', Heap.SameBut C s'.heap h' → Inv X pins σ (upd H D (.lst ys)) { s' with heap := h' }) ∧ Q (.ref D) (upd H D (.lst ys))

theorem comp_block {X : Cx} {elt iter tg : Expr} {ifs : List Expr} {scope : Scope} {pos : Pos} {N : List Str} {fr : List (Option Nat)} {g : TG} {tt : TT} {te : TE} {cl : List (Str × Addr)}
    (hcalm : X.calm = true) (S : CompScope X scope N fr) (hclS : ∀ x c, cl.lookup x = some c → X.env.cells.lookup x = some c) (hclH : ∀ y ∈ scope.names, y.2 = .free → ∃ c, cl.lookup y.1 = some c)
    (hg : ∀ C s₂ H₂ fp pn, PG (blk X N scope cl C s₂ H₂ fp pn) tg g) (hgo : TgOk fr g) (ht : ∀ C s₂ H₂ fp pn, PTs (blk X N scope cl C s₂ H₂ fp pn) ifs tt) (he : ∀ C s₂ H₂ fp pn, PE (blk X N scope cl C s₂ H₂ fp pn) elt te)
    {pins : List (Addr × Obj)} {s2 : Shared} {σ : St} {H2 : Hp} {Q : VK} {it : Addr} {fp : List Addr} {tn : Nat → Heap → Prop} {J : It} (I2 : Inv X pins σ H2 s2) (T : Turn X.prog X.w X.K tg J fp it tn) (st2 : tn 0 s2.heap) (f2 : ∀ b ∈ fp, FpOk X pins H2 b)
    (W : Nat → Nat → List V → Hp → Prop) (w0 : ∃ m, W 0 m [] H2)
    (turn : ∀ i m ys H, W i m ys H → ys.length ≤ sizeLine ∧
    ((J.stop i H ∧ ∀ p, H p = none → Q (.ref p) (upd H p (.lst ys))) ∨
     (J.go i H ∧ ∃ NN : List V → Hp → Prop, (∀ ys' H', NN ys' H' → ∃ m', m' < m ∧ W (i + 1) m' ys' H') ∧ ∀ x H', J.yld i H x H' → g x (grab fr σ) H' fun σ2 H2 => tt σ2 H2 fun b H3 =>
        if b = true then te σ2 H3 fun y H4 => NN (ys ++ [y]) H4 else NN ys H3)))
    {E : Value → Shared → Prop} {RR : Value → Addr → Result → Shared → Prop} (hRR : ∀ C D s', BlkEnd X pins σ Q C D s' → RR (.ref D) C (.ok .next) s') :
    wpAny (model X.prog X.w) X.A (newList []) (fun acc s₃ => wpAny (model X.prog X.w) X.A (newFunctionEnv scope X.env.globals cl [] X.env.qual none .none (some X.env)) (fun cenv s₄ =>
      codeAny (model X.prog X.w) X.A (.compStart (.ListComp elt [⟨tg, iter, ifs, 0⟩] scope pos) 0 (.ref it) acc { cenv with scope := relabel scope X.env }) (RR acc cenv.locals) s₄) E s₃) E s2 := by
  obtain ⟨m0, w0⟩ := w0
  refine wpAny_newObj_type (wpAny_newFunctionEnv S.nocell (by intro y hy; simp at hy) (fun h₁ hns₁ hsb₁ => ?_) S.kind)
  dsimp only at hns₁ hsb₁ ⊢
  generalize hHH : s2.heap.push { cls := .type "list", dict := none, data := .seq ([] : List Value).toArray } = HH at hns₁ hsb₁ ⊢
  have hC : HH.objs.size = s2.heap.objs.size + 1 := by rw [← hHH, Heap.size_push]
  generalize hDD : s2.heap.objs.size = D at *
  generalize hCC : HH.objs.size = C at *
  have hDlt : Nat.lt D C := by show D < C; rw [hC]; exact Nat.lt_succ_self _
  have hDC : D ≠ C := Nat.ne_of_lt hDlt
  have neD : ∀ {b : Addr}, Nat.lt b D → b ≠ D := fun h => Nat.ne_of_lt h
  have neC : ∀ {b : Addr}, Nat.lt b D → b ≠ C := fun h => Nat.ne_of_lt (Nat.lt_trans h hDlt)
  have below : ∀ (b : Addr) (o : Obj), s2.heap.get? b = some o → Nat.lt b D := fun b o e => by rw [← hDD]; exact Heap.lt_size e
  have old : ∀ b o, s2.heap.get? b = some o → h₁.get? b = some o := fun b o e => hsb₁.extBut b o (neC (below b o e)) (Heap.get?_push_of_some _ (hHH ▸ Heap.get?_push_of_some _ e))
  have hacc : h₁.get? D = some { cls := .type "list", data := .seq ([] : List Value).toArray } := hsb₁.extBut _ _ hDC (Heap.get?_push_of_some _ (by rw [← hHH, ← hDD]; exact Heap.get?_push_size _ rfl))
  have Lt : Nat.lt X.env.locals D := by rw [← hDD]; exact I2.lt
  have cellLt : ∀ x c, X.env.cells.lookup x = some c → Nat.lt c D := fun x c e => by
    obtain ⟨v, q⟩ := I2.cell x c e
    rw [← hDD]; exact q.lt
  have pinLt : ∀ p ∈ X.pn ++ pins, Nat.lt p.1 D := fun p hp => below p.1 p.2 (I2.pin p hp).1
  have freshH : ∀ b : Addr, Nat.le D b → H2 b = none := fun b hb => I2.hok.fresh (by rw [hDD]; exact hb)
  -- the block's context
  let X' : Cx := blk X N scope cl C s2 H2 fp (X.pn ++ pins)
  have okX : X'.Ok := by
    refine ⟨I2.ok.mod, S.kind, I2.ok.glob, I2.ok.blt, by show s2.heap.objs.size ≤ C; rw [hDD]; exact Nat.le_of_lt hDlt, fun x y c e1 e2 => I2.ok.inj x y c (hclS _ _ e1) (hclS _ _ e2), fun x hx => ?_, fun x c hf _ => (by cases hf), I2.ok.hd, I2.ok.frames, .inl rfl, fun b hb => ⟨?_, fun x c e => (f2 b hb).2.2.2.2.1 x c (hclS _ _ e)⟩, I2.bs, Nat.le_trans I2.ok.bsz I2.sz, fun b o e hb => ?_, fun b hb hm => ?_, I2.stack, I2.stkFree⟩
    · have hx : (relabel scope X.env).names.lookup x = some .cell ∨ (relabel scope X.env).names.lookup x = some .free := hx
      have hf : scope.names.lookup x = some .free := by
        rcases hx with hx | hx
        · rcases lookup_relabel_back hx with h | ⟨_, h⟩
          · exact absurd rfl (S.nocell _ (PySem.mem_of_lookup h))
          · exact h
        · rcases lookup_relabel_back hx with h | ⟨h, _⟩
          · exact h
          · cases h
      exact hclH _ (PySem.mem_of_lookup hf) rfl
    · obtain ⟨o, e, _⟩ := T.obj 0 _ st2 b hb
      exact neC (below b o e)
    · obtain ⟨_, _, _, h, _⟩ := f2 b hb
      rcases h with h | h
      · exact I2.ok.noex b o e h
      · have := Heap.lt_size (I2.ok.bs b o e).1
        exact absurd (Nat.lt_of_lt_of_le this h) (Nat.lt_irrefl _)
    · rcases List.mem_cons.mp (I2.stkSub b hm) with h | h
      · exact (f2 b hb).2.1 h
      · exact (f2 b hb).2.2.1 h
  have I4 : ∀ tk, 0 < tk → Inv X' [(D, { cls := .type "list", data := .seq ([] : List Value).toArray })] (grab fr σ) H2 { s2 with heap := h₁, toks := tk } := fun tk htk => by
    refine ⟨okX, rfl, I2.bare, Un.kept old, ⟨_, hns₁, fun j x v e1 e2 e3 => ?_⟩, fun x c e => ?_, freshH C (Nat.le_of_lt hDlt), fun x c e => I2.freeC x c (hclS _ _ e), fun p hp => ?_, I2.hok.kept old, ?_, htk⟩
    · obtain ⟨i, q1, q2⟩ := grab_get e2
      obtain ⟨a1, a2⟩ := S.at_ j i x q1 e1
      obtain ⟨m, hn, hl⟩ := I2.loc
      have vis : Vis X.env.scope x := by
        rcases S.free _ (PySem.mem_of_lookup a2) rfl with h | h
        · exact .inr (.inl h)
        · exact .inr (.inr h)
      obtain ⟨u, r, l⟩ := hl i x v a1 q2 vis
      refine ⟨u, r, .inr ⟨?_, ?_⟩⟩
      · exact lookup_relabel_free (env := X.env) a2
      · rcases l with ⟨hk, _⟩ | ⟨_, c, hc, hcell⟩
        · have hk : X.env.scope.names.lookup x = some .local := hk
          rcases S.free _ (PySem.mem_of_lookup a2) rfl with h | h
          · have h : X.env.scope.names.lookup x = some .cell := h
            rw [hk] at h; cases h
          · have h : X.env.scope.names.lookup x = some .free := h
            rw [hk] at h; cases h
        · obtain ⟨c', hc'⟩ := hclH _ (PySem.mem_of_lookup a2) rfl
          have : c = c' := by
            have := hclS _ _ hc'
            rw [hc] at this
            exact Option.some.inj this
          subst this
          obtain ⟨o, ho, hd⟩ := hcell
          exact ⟨c, hc', o, old c o ho, hd⟩
    · obtain ⟨v, o, ho, hd⟩ := I2.cell x c (hclS _ _ e)
      exact ⟨v, o, old c o ho, hd⟩
    · rcases List.mem_append.mp hp with hp | hp
      · obtain ⟨e, n, ne, nf, d⟩ := I2.pin p hp
        refine ⟨old _ _ e, n, ?_, fun hm => ?_, d⟩
        · exact neC (pinLt p hp)
        · rcases List.mem_cons.mp (I2.stkSub _ hm) with h | h
          · exact ne h
          · exact nf h
      · have hp : p = (D, { cls := .type "list", data := .seq ([] : List Value).toArray }) := by simpa using hp
        subst hp
        refine ⟨hacc, freshH D (Nat.le_refl _), hDC, fun hm => ?_, fun v z => by cases z⟩
        rcases List.mem_cons.mp (I2.stkSub _ hm) with h | h
        · exact neD Lt h.symm
        · exact I2.nofs (by rw [hDD]; exact Nat.le_refl _) h
    · show (grab fr σ).length = N.length
      unfold grab
      rw [List.length_map, S.len]
  -- facts about the iterator's objects within the block
  have fpLt : ∀ b ∈ fp, Nat.lt b D := fun b hb => by
    obtain ⟨o, e, _⟩ := T.obj 0 _ st2 b hb
    exact below b o e
  have fpk : ∀ {H : Hp} {oD : Obj}, (∀ b ∈ fp, H b = none) → ∀ b ∈ fp, FpOk X' [(D, oD)] H b := fun {H oD} hn b hb => by
    refine ⟨hn b hb, ?_, fun hm => ?_, .inl hb, fun x c e => (f2 b hb).2.2.2.2.1 x c (hclS _ _ e), fun p hp => ?_⟩
    · exact neC (fpLt b hb)
    · rcases List.mem_cons.mp (I2.stkSub b hm) with h | h
      · exact (f2 b hb).2.1 h
      · exact (f2 b hb).2.2.1 h
    · rcases List.mem_append.mp hp with hp | hp
      · exact (f2 b hb).2.2.2.2.2 p hp
      · have hp : p = (D, oD) := by simpa using hp
        subst hp
        exact (neD (fpLt b hb)).symm
  have loop : ∀ s₃ : Shared, s₃ = { s2 with heap := h₁, toks := s2.toks + ([] : List (Str × Value)).length } →
      codeAny (model X.prog X.w) X.A (.compLoop (.ListComp elt [⟨tg, iter, ifs, 0⟩] scope pos) 0 (.ref it) (.ref D) (compEnvC scope cl C X.env)) (RR (.ref D) C) s₃ := by
    rintro s₃ rfl
    refine codeAny_compLoop_gen (fun n s' => ∃ i ys its k H', Inv X' [(D, ({ cls := .type "list", data := .seq its k } : Obj))] (grab fr σ) H' s' ∧ tn i s'.heap ∧ (∀ b ∈ fp, H' b = none) ∧ Vals ys its.toList ∧ W i n ys H') ?_ m0
      ⟨0, [], #[], _, H2, I4 _ (by first | exact I2.tk | exact Nat.succ_pos _), T.keep 0 _ _ st2 (fun b _ o e => old b o e), fun b hb => (f2 b hb).1, .nil, w0⟩
    rintro n s3 ⟨i, ys, its, k, H3, I3, st3, fr3, vy, w3⟩
    obtain ⟨hsz, h⟩ := turn i n ys H3 w3
    rcases h with ⟨stop, qn⟩ | ⟨go, NN, hNN, step⟩
    · refine noE (thn (T.done X' rfl rfl rfl hcalm i [(D, _)] s3 (grab fr σ) H3 _ I3 (fpk fr3) st3 stop) fun r s4 ⟨hr, I4⟩ => ?_)
      subst hr
      refine hRR C D s4 ⟨ys, H3, ?_⟩
      obtain ⟨pD, nD, _, _, _⟩ := I4.pin (D, _) (List.mem_append_right _ (List.mem_singleton.mpr rfl))
      have pD : s4.heap.get? D = some { cls := .type "list", data := .seq its k } := pD
      have nD : H3 D = none := nD
      have nC : H3 C = none := I4.free
      obtain ⟨mC, hnC, _⟩ := I4.loc
      refine ⟨nD, ⟨mC, hnC⟩, hDC, (neC Lt).symm, fun x c e z => ?_, fun p hp z => ?_, ?_, fun hm => ?_, ?_, fun h' hsb => ?_, qn D nD⟩
      · exact neC (cellLt x c e) z
      · exact neC (pinLt p hp) z
      · have := I2.sz; rw [hDD] at this; exact Nat.le_trans this (Nat.le_of_lt hDlt)
      · exact I2.nofs (by rw [hDD]; exact Nat.le_of_lt hDlt) hm
      · rw [upd_ne (Ne.symm hDC)]; exact nC
      · have un : Un (frs X.stack) fp H2 (upd H3 D (.lst ys)) s2.heap h' := by
          have u := I4.base
          have neC : ∀ (b : Addr) (o : Obj), s2.heap.get? b = some o → b ≠ C := fun b o e => neC (below b o e)
          have neD : ∀ (b : Addr) (o : Obj), s2.heap.get? b = some o → b ≠ D := fun b o e => neD (below b o e)
          have trkNe : ∀ b (o : HO), H3 b = some o → b ≠ D := fun b o e z => by rw [z, nD] at e; cases e
          refine ⟨fun b o e n hb hx => hsb.extBut b o (neC b o e) (u.keep b o e n hb hx), fun b o e n hb hx => ?_, fun b o e n hx => by rw [upd_ne (neD b o e)]; exact u.free b o e n hx, fun b o e hx => ?_, fun b xs e => ?_, fun b o xs e => ?_, fun b ps e => ?_⟩
          · obtain ⟨sl, q⟩ := u.slot b o e n hb hx
            exact ⟨sl, hsb.extBut b _ (neC b o e) q⟩
          · obtain ⟨o', q⟩ := u.there b o e hx
            exact ⟨o', hsb.extBut b _ (neC b o e) q⟩
          · have q := u.tups b xs e
            rw [upd_ne (trkNe b _ q)]; exact q
          · have q := u.frzs b o xs e
            rw [upd_ne (trkNe b _ q)]; exact q
          · obtain ⟨more, q⟩ := u.tbls b ps e
            exact ⟨more, by rw [upd_ne (trkNe b _ q)]; exact q⟩
        have hok : HOk X.prog X.w (upd H3 D (.lst ys)) h' := fun b u e => by
          by_cases hb : b = D
          · rw [hb, upd_same] at e
            cases e
            rw [hb]
            exact ⟨hsz, its.toList, k, vy, by simpa using hsb.extBut D _ hDC pD⟩
          · rw [upd_ne hb] at e
            refine (I4.hok b u e).stay (fun c v hc q => hsb.extBut c v ?_ q) (fun c q => ?_) fun c xs q => ?_
            · rcases hc with rfl | hc
              · rintro rfl; rw [nC] at e; cases e
              · rintro rfl; rw [nC] at hc; cases hc
            · rw [upd_ne (ne_of_none q nD)]; exact q
            · rw [upd_ne (ne_of_none q nD)]; exact q
        obtain ⟨hh, gg, dd, tt', os'⟩ := s4
        obtain rfl : os' = s2.os := I4.os
        refine (show Inv X pins σ (upd H3 D (.lst ys)) { s2 with heap := h', gens := gg, drawn := dd, toks := tt' } from I2.call (h' := h') (g' := gg) (d' := dd) (t' := tt') (ch := fp) un hok I4.bare fun b hb => ?_)
        obtain ⟨_, f1, _, f3, f4, f5⟩ := f2 b hb
        exact ⟨f3, f1, f4, f5⟩
    · refine noE (thn (T.item X' rfl rfl rfl hcalm i [(D, _)] s3 (grab fr σ) H3 _ I3 (fpk fr3) st3 go) fun r s4 ⟨u, hr, h4⟩ => ?_)
      subst hr
      refine noE (thn h4 fun _ s5 ⟨x, H5, I5, r5, y5, st5, fr5⟩ => ?_)
      have I5' := I5.pinned (fpk fr5) (T.obj _ _ st5)
      refine noE (thn (hg C s2 H2 fp (X.pn ++ pins) _ s5 (grab fr σ) H5 x u _ I5' r5 (hgo _ _ _ _ (step x H5 y5))) fun _ s6 ⟨σ6, H6, I6, q6, k6⟩ => ?_)
      refine noE (thn (ht C s2 H2 fp (X.pn ++ pins) _ s6 σ6 H6 _ I6 q6) fun b s7 ⟨H7, I7, q7⟩ => ?_)
      -- back to the turn's begin
      have back : ∀ {s8 : Shared} {H8 : Hp}, Inv X' ([(D, ({ cls := .type "list", data := .seq its k } : Obj))] ++ pinsAt fp s5.heap) σ6 H8 s8 → Inv X' [(D, ({ cls := .type "list", data := .seq its k } : Obj))] (grab fr σ) H8 s8 ∧ tn (i + 1) s8.heap ∧ ∀ b ∈ fp, H8 b = none := fun {s8 H8} I8 => by
        refine ⟨(I8.unpinned).weak ?_ fun j v e => ?_, T.keep _ _ _ st5 fun b hb o e => (I8.pin (b, o) (List.mem_append_right _ (List.mem_append_right _ (mem_pinsAt hb e)))).1, fun b hb => ?_⟩
        · rw [I8.len]; show (grab fr σ).length = N.length; unfold grab; rw [List.length_map, S.len]
        · obtain ⟨i', q1, _⟩ := grab_get e
          rw [k6 j i' q1]; exact e
        · obtain ⟨o, e, d⟩ := T.obj _ _ st5 b hb
          exact (I8.pin (b, o) (List.mem_append_right _ (List.mem_append_right _ (mem_pinsAt hb e)))).2.1
      cases b with
      | false =>
        rw [if_neg Bool.false_ne_true] at q7 ⊢
        obtain ⟨m', hm, w7⟩ := hNN _ _ q7
        obtain ⟨J1, J2, J3⟩ := back I7
        exact ⟨m', hm, i + 1, ys, its, k, H7, J1, J2, J3, vy, w7⟩
      | true =>
        rw [if_pos rfl] at q7 ⊢
        refine noE (thn (he C s2 H2 fp (X.pn ++ pins) _ s7 σ6 H7 _ I7 q7) fun y s8 ⟨yv, H8, I8, r8, n8⟩ => ?_)
        obtain ⟨m', hm, w8⟩ := hNN _ _ n8
        obtain ⟨J1, J2, J3⟩ := back I8
        obtain ⟨pD, nD, _, _, _⟩ := J1.pin (D, _) (List.mem_append_right _ (List.mem_singleton.mpr rfl))
        have pD : s8.heap.get? D = some { cls := .type "list", data := .seq its k } := pD
        have nD : H8 D = none := nD
        have hz' : its.size ≤ sizeLine := by
          have e1 : its.size = ys.length := by rw [vy.length]; simp
          rw [e1]; exact hsz
        refine wpAny_list_append_plain (hsz := hz') ⟨k, pD⟩ fun h' ⟨k', hl'⟩ hsb => ?_
        · refine ⟨m', hm, i + 1, ys ++ [yv], its.push y, k', H8, ?_, T.keep _ _ _ J2 fun b hb o e => ?_, J3, ?_, w8⟩
          · have K0 : Inv X' [] (grab fr σ) H8 s8 := J1.pins_of fun p hp => by cases hp
            have K1 : Inv X' [] (grab fr σ) H8 { s8 with heap := h' } := by
              refine K0.turned (it := D) (t' := s8.toks) (fun b o hb e => hsb.extBut b o hb e) nD hDC (.inr (by show s2.heap.objs.size ≤ D; rw [hDD]; exact Nat.le_refl _)) (fun x c e z => ?_) fun p hp z => ?_
              · exact neD (cellLt x c (hclS _ _ e)) z
              · have hp : p ∈ X.pn ++ pins := by
                  rcases List.mem_append.mp hp with hp | hp
                  · exact hp
                  · cases hp
                exact neD (pinLt p hp) z
            refine K1.pins_of fun p hp => ?_
            have hp : p = (D, ({ cls := .type "list", data := .seq (its.push y) k' } : Obj)) := by simpa using hp
            subst hp
            refine ⟨hl', nD, hDC, fun hm => ?_, fun v z => by cases z⟩
            rcases List.mem_cons.mp (I2.stkSub _ hm) with h | h
            · exact neD Lt h.symm
            · exact I2.nofs (by rw [hDD]; exact Nat.le_refl _) h
          · exact hsb.extBut b o (neD (fpLt b hb)) e
          · rw [Array.toList_push]
            exact Vals.append vy (.cons r8 .nil)
  exact codeAny_compStart_list (loop _ rfl) (T.self _ 0 _ _ _ (T.keep 0 _ _ st2 fun b _ o e => old b o e) (loop _ rfl))

theorem pe_comp {X : Cx} {elt iter tg : Expr} {ifs : List Expr} {scope : Scope} {pos : Pos} {N : List Str} {fr : List (Option Nat)} {wi : TI} {g : TG} {tt : TT} {te : TE}
    (hcalm : X.calm = true) (S : CompScope X scope N fr) (hi : PI X tg iter wi)
    (hg : ∀ cl C s₂ H₂ fp pn, PG (blk X N scope cl C s₂ H₂ fp pn) tg g) (hgo : TgOk fr g) (ht : ∀ cl C s₂ H₂ fp pn, PTs (blk X N scope cl C s₂ H₂ fp pn) ifs tt) (he : ∀ cl C s₂ H₂ fp pn, PE (blk X N scope cl C s₂ H₂ fp pn) elt te)
    (hs : ∀ x, foldedSetIterable iter X.env x = pure x := by intro _; rfl) : PE X (.ListComp elt [⟨tg, iter, ifs, 0⟩] scope pos) (tComp fr wi g tt te) := by
  intro pins s σ H Q I h
  obtain ⟨cl, hclos, hclS, hclH⟩ := closureFor_ex (env := X.env) (scope := scope) fun y hy hf => I.ok.has y.1 (S.free y hy hf)
  rw [eval_ListComp]
  refine wpAny_comprehension_free (use := none) rfl hs hclos S.kind S.names (thn (hi pins s σ H _ I h) fun v s1 h1 => thn h1 fun itv s2 h2 => ?_)
  obtain ⟨it, fp, tn, J, H2, e, I2, T, st2, f2, W, w0, turn⟩ := h2
  subst e
  refine comp_block (RR := fun acc C => compPost (model X.prog X.w) X.A X.xe none (EP X pins σ Q) acc C) hcalm S hclS hclH (hg cl) hgo (ht cl) (he cl) I2 T st2 f2 W w0 turn fun C D s' B => ?_
  obtain ⟨ys, H', nD, hC, _, _, _, _, _, _, _, hI, q⟩ := B.ex
  obtain ⟨m, hn⟩ := hC
  exact ⟨m, hn, fun h' hs' => ⟨.ref D, _, hI h' hs', rfl, q⟩⟩

/-- name = a comprehension, where the stores are exchanged -/
theorem ps_setC {X : Cx} {elt iter tg : Expr} {ifs : List Expr} {scope : Scope} {pos spos py : Pos} {N : List Str} {fr : List (Option Nat)} {wi : TI} {g : TG} {tt : TT} {te : TE} {i : Nat} {y : Str}
    (hN : X.N.Nodup) (hy : X.N[i]? = some y) (hly : X.env.scope.names.lookup y = some .local)
    (hcalm : X.calm = true) (S : CompScope X scope N fr) (hi : PI X tg iter wi)
    (hg : ∀ cl C s₂ H₂ fp pn, PG (blk X N scope cl C s₂ H₂ fp pn) tg g) (hgo : TgOk fr g) (ht : ∀ cl C s₂ H₂ fp pn, PTs (blk X N scope cl C s₂ H₂ fp pn) ifs tt) (he : ∀ cl C s₂ H₂ fp pn, PE (blk X N scope cl C s₂ H₂ fp pn) elt te)
    (hsw : swapsWith (.ListComp elt [⟨tg, iter, ifs, 0⟩] scope pos) (some (.Name y py)) spos.line X.env = pure true := by rfl)
    (hs : ∀ x, foldedSetIterable iter X.env x = pure x := by intro _; rfl) : PS X (.Assign [.Name y py] (.ListComp elt [⟨tg, iter, ifs, 0⟩] scope pos) spos) (tAsg (tComp fr wi g tt te) (gName i)) := by
  intro pins s σ H D I h
  obtain ⟨cl, hclos, hclS, hclH⟩ := closureFor_ex (env := X.env) (scope := scope) fun y hy hf => I.ok.has y.1 (S.free y hy hf)
  rw [exec_Assign_Name_used _ _ _ _ hsw]
  refine wpAny_bind (wpAny_standAt (wpAny_bind ?_))
  show wpAny _ X.A (do let _ ← comprehension (.ListComp elt [⟨tg, iter, ifs, 0⟩] scope pos) scope X.env _ (newList []) false (eval iter X.env) (some (assign (.Name y py) X.env))) _ _ s
  refine wpAny_bind (wpAny_mono (wpAny_comprehension_free (use := some (assign (.Name y py) X.env)) (Q := fun _ s' => SP X pins D .next s') rfl hs hclos S.kind S.names
    (thn (hi pins s σ H _ I h) fun v s1 h1 => thn h1 fun itv s2 h2 => ?_)) (fun _ s' hq => wpAny_pure (wpAny_pure hq)) fun _ _ e => e)
  obtain ⟨it, fp, tn, J, H2, e, I2, T, st2, f2, W, w0, turn⟩ := h2
  subst e
  refine comp_block (Q := fun x H1 => gName i x σ H1 D.nx) (RR := fun acc C => compPost (model X.prog X.w) X.A X.xe (some (assign (.Name y py) X.env)) (fun _ s' => SP X pins D .next s') acc C) hcalm S hclS hclH (hg cl) hgo (ht cl) (he cl) I2 T st2 f2 W w0 turn fun C D' s' B => ?_
  obtain ⟨ys, H', nD, hC, hDC, hCL, hCc, hCp, hCs, hCf, hCn, hI, q⟩ := B.ex
  obtain ⟨m, hn⟩ := hC
  have I1 : Inv X pins σ (upd H' D' (.lst ys)) s' := by
    have := hI s'.heap (.refl ..)
    obtain ⟨hh, gg, dd, tt', os'⟩ := s'
    exact this
  show wpAny _ X.A (assign (.Name y py) X.env (.ref D')) _ _ _
  refine wpAny_assign_Name (store_ok2 I1 hN hy (.inl hly) (v := .ref D') rfl (fun s2 I3 ⟨a, sb, ha⟩ => ?_) (.inr hly))
  have hCa : C ≠ a := by
    rcases ha with rfl | ha
    · exact hCL
    · exact fun z => hCc y a ha z.symm
  refine ⟨m, hn.sameBut sb hCa, fun h3 hs3 => ?_⟩
  exact ⟨_, _, I3.turned (it := C) (t' := s2.toks) (fun b o hb e => hs3.extBut b o hb e) hCn hCL (.inr hCs) hCc hCp, q⟩
end L2

namespace L2
open PySem PySem.Spec PyProof.Rows

mutual
def Dv (K : PySem.W.Frag) (H : Hp) : PyData → V → Prop
  | .none, v => v = .non
  | .bool b, v => v = .bl b
  | .int i, v => v = .int i
  | .str x, v => v = .str x
  | .list ds, v => ∃ a vs, v = .ref a ∧ SqL K H a vs ∧ Dvs K H ds vs
  | .tuple ds, v => ∃ a vs, v = .ref a ∧ SqT K H a vs ∧ Dvs K H ds vs
  | .dict _, _ => False
def Dvs (K : PySem.W.Frag) (H : Hp) : List PyData → List V → Prop
  | [], vs => vs = []
  | d :: ds, vs => ∃ v r, vs = v :: r ∧ Dv K H d v ∧ Dvs K H ds r
end

section
variable {K : PySem.W.Frag} {H H' : Hp}
theorem Dvs.length : ∀ {ds : List PyData} {vs : List V}, Dvs K H ds vs → vs.length = ds.length
  | [], _, h => by rw [Dvs] at h; subst h; rfl
  | d :: ds, _, h => by
    rw [Dvs] at h
    obtain ⟨v, r, rfl, _, h⟩ := h
    rw [List.length_cons, List.length_cons, Dvs.length h]
theorem Dvs.get : ∀ {ds : List PyData} {vs : List V} {i : Nat} {d : PyData}, Dvs K H ds vs → ds[i]? = some d → ∃ v, vs[i]? = some v ∧ Dv K H d v
  | [], _, _, _, _, e => by simp at e
  | d :: ds, _, 0, _, h, e => by
    rw [Dvs] at h
    obtain ⟨v, r, rfl, h, _⟩ := h
    cases e
    exact ⟨v, rfl, h⟩
  | d :: ds, _, i + 1, _, h, e => by
    rw [Dvs] at h
    obtain ⟨v, r, rfl, _, h⟩ := h
    exact Dvs.get (i := i) h (by simpa using e)
theorem Dvs.get' : ∀ {ds : List PyData} {vs : List V} {i : Nat} {v : V}, Dvs K H ds vs → vs[i]? = some v → ∃ d, ds[i]? = some d ∧ Dv K H d v
  | [], _, _, _, h, e => by rw [Dvs] at h; subst h; simp at e
  | d :: ds, _, 0, _, h, e => by
    rw [Dvs] at h
    obtain ⟨v, r, rfl, h, _⟩ := h
    cases e
    exact ⟨d, rfl, h⟩
  | d :: ds, _, i + 1, _, h, e => by
    rw [Dvs] at h
    obtain ⟨v, r, rfl, _, h⟩ := h
    exact Dvs.get' (i := i) h (by simpa using e)
theorem Dvs.append : ∀ {ds es : List PyData} {vs ws : List V}, Dvs K H ds vs → Dvs K H es ws → Dvs K H (ds ++ es) (vs ++ ws)
  | [], _, _, _, h, g => by rw [Dvs] at h; subst h; exact g
  | d :: ds, es, _, _, h, g => by
    rw [Dvs] at h
    obtain ⟨v, r, rfl, h1, h⟩ := h
    show Dvs K H (d :: (ds ++ es)) _
    rw [Dvs]
    exact ⟨v, r ++ _, rfl, h1, Dvs.append h g⟩
theorem dvs_nil : Dvs K H [] [] := by rw [Dvs]
theorem dvs_cons {d : PyData} {ds : List PyData} {v : V} {vs : List V} (h : Dv K H d v) (t : Dvs K H ds vs) : Dvs K H (d :: ds) (v :: vs) := by rw [Dvs]; exact ⟨v, vs, rfl, h, t⟩
theorem dv_none {v : V} : Dv K H .none v ↔ v = .non := by rw [Dv]
theorem dv_bool {b : Bool} {v : V} : Dv K H (.bool b) v ↔ v = .bl b := by rw [Dv]
theorem dv_int {i : Int} {v : V} : Dv K H (.int i) v ↔ v = .int i := by rw [Dv]
theorem dv_str {x : Str} {v : V} : Dv K H (.str x) v ↔ v = .str x := by rw [Dv]
theorem dv_list {ds : List PyData} {v : V} : Dv K H (.list ds) v ↔ ∃ a vs, v = .ref a ∧ SqL K H a vs ∧ Dvs K H ds vs := by rw [Dv]
theorem dv_tuple {ds : List PyData} {v : V} : Dv K H (.tuple ds) v ↔ ∃ a vs, v = .ref a ∧ SqT K H a vs ∧ Dvs K H ds vs := by rw [Dv]
/-- texts -/
def sDa (xs : List Str) : List PyData := xs.map .str
def strV (xs : List Str) : List V := xs.map .str
theorem dvs_sDa : ∀ {xs : List Str} {vs : List V}, Dvs K H (sDa xs) vs ↔ vs = strV xs
  | [], _ => by show Dvs K H [] _ ↔ _ = []; rw [Dvs]
  | x :: xs, vs => by
    show Dvs K H (.str x :: sDa xs) vs ↔ vs = V.str x :: strV xs
    rw [Dvs]
    constructor
    · rintro ⟨v, r, rfl, h1, h2⟩
      rw [dv_str.mp h1, dvs_sDa.mp h2]
    · rintro rfl
      exact ⟨_, _, rfl, dv_str.mpr rfl, dvs_sDa.mpr rfl⟩
end

/-- what stays: the tuples; all -/
def TupK (H H' : Hp) : Prop := (∀ b xs, H b = some (.tup xs) → H' b = some (.tup xs)) ∧ ∀ b o xs, H b = some (.frz o (.tup xs)) → H' b = some (.frz o (.tup xs))
theorem Same.tupK {H H' : Hp} (h : Same H H') : TupK H H' := ⟨fun b xs e => h b _ e, fun b o xs e => h b _ e⟩
theorem TupK.refl (H : Hp) : TupK H H := ⟨fun _ _ e => e, fun _ _ _ e => e⟩
theorem TupK.trans {H H1 H2 : Hp} (a : TupK H H1) (b : TupK H1 H2) : TupK H H2 := ⟨fun c xs e => b.1 c xs (a.1 c xs e), fun c o xs e => b.2 c o xs (a.2 c o xs e)⟩
theorem TupK.sqT {K : PySem.W.Frag} {H H' : Hp} {a : Addr} {xs : List V} (e : TupK H H') (h : SqT K H a xs) : SqT K H' a xs := by
  rcases h with (h | ⟨o, h⟩) | h
  · exact .inl (.inl (e.1 _ _ h))
  · exact .inl (.inr ⟨o, e.2 _ _ _ h⟩)
  · exact .inr h
theorem Same.sqT {K : PySem.W.Frag} {H H' : Hp} {a : Addr} {xs : List V} (e : Same H H') (h : SqT K H a xs) : SqT K H' a xs := e.tupK.sqT h
theorem Same.sqL {K : PySem.W.Frag} {H H' : Hp} {a : Addr} {xs : List V} (e : Same H H') (h : SqL K H a xs) : SqL K H' a xs := e.seq h
theorem Same.new {H : Hp} {p : Addr} (h : H p = none) (o : HO) : Same H (upd H p o) := fun b u q => by rw [upd_ne (ne_of_none q h)]; exact q
/-- all but the objects of a list of addresses -/
def But (ps : List Addr) (H H' : Hp) : Prop := ∀ b o, H b = some o → b ∉ ps → H' b = some o
theorem Same.but {H H' : Hp} (ps : List Addr) (h : Same H H') : But ps H H' := fun b o e _ => h b o e
theorem But.refl (ps : List Addr) (H : Hp) : But ps H H := fun _ _ e _ => e
theorem But.trans {ps : List Addr} {H H1 H2 : Hp} (a : But ps H H1) (b : But ps H1 H2) : But ps H H2 := fun c o e n => b c o (a c o e n) n
theorem But.upd {ps : List Addr} {H : Hp} {p : Addr} (h : p ∈ ps) (o : HO) : But ps H (upd H p o) := fun b u q n => by rw [upd_ne (by rintro rfl; exact n h)]; exact q
theorem But.mono {ps qs : List Addr} {H H' : Hp} (a : But ps H H') (h : ∀ b ∈ ps, b ∈ qs) : But qs H H' := fun c o e n => a c o e fun z => n (h c z)
mutual
/-- data without lists -/
def fix : PyData → Bool
  | .none => true | .bool _ => true | .int _ => true | .str _ => true
  | .list _ => false
  | .tuple ds => fixs ds
  | .dict _ => false
def fixs : List PyData → Bool
  | [] => true
  | d :: ds => fix d && fixs ds
end
mutual
theorem Dv.tupK {K : PySem.W.Frag} {H H' : Hp} (k : TupK H H') : ∀ (d : PyData) (v : V), fix d = true → Dv K H d v → Dv K H' d v
  | .none, _, _, h => dv_none.mpr (dv_none.mp h)
  | .bool _, _, _, h => dv_bool.mpr (dv_bool.mp h)
  | .int _, _, _, h => dv_int.mpr (dv_int.mp h)
  | .str _, _, _, h => dv_str.mpr (dv_str.mp h)
  | .list _, _, f, _ => by rw [fix] at f; cases f
  | .tuple ds, v, f, h => by
    rw [fix] at f
    obtain ⟨a, vs, rfl, hq, h⟩ := dv_tuple.mp h
    exact dv_tuple.mpr ⟨a, vs, rfl, k.sqT hq, Dvs.tupK k ds vs f h⟩
  | .dict _, _, f, _ => by rw [fix] at f; cases f
theorem Dvs.tupK {K : PySem.W.Frag} {H H' : Hp} (k : TupK H H') : ∀ (ds : List PyData) (vs : List V), fixs ds = true → Dvs K H ds vs → Dvs K H' ds vs
  | [], _, _, h => by rw [Dvs] at h ⊢; exact h
  | d :: ds, vs, f, h => by
    rw [fixs, Bool.and_eq_true] at f
    rw [Dvs] at h ⊢
    obtain ⟨v, r, e, h1, h2⟩ := h
    exact ⟨v, r, e, Dv.tupK k d v f.1 h1, Dvs.tupK k ds r f.2 h2⟩
end
mutual
theorem Dv.same {K : PySem.W.Frag} {H H' : Hp} (k : Same H H') : ∀ (d : PyData) (v : V), Dv K H d v → Dv K H' d v
  | .none, _, h => dv_none.mpr (dv_none.mp h)
  | .bool _, _, h => dv_bool.mpr (dv_bool.mp h)
  | .int _, _, h => dv_int.mpr (dv_int.mp h)
  | .str _, _, h => dv_str.mpr (dv_str.mp h)
  | .list ds, v, h => by
    obtain ⟨a, vs, rfl, hq, h⟩ := dv_list.mp h
    exact dv_list.mpr ⟨a, vs, rfl, k.sqL hq, Dvs.same k ds vs h⟩
  | .tuple ds, v, h => by
    obtain ⟨a, vs, rfl, hq, h⟩ := dv_tuple.mp h
    exact dv_tuple.mpr ⟨a, vs, rfl, k.sqT hq, Dvs.same k ds vs h⟩
  | .dict _, _, h => by rw [Dv] at h; exact h.elim
theorem Dvs.same {K : PySem.W.Frag} {H H' : Hp} (k : Same H H') : ∀ (ds : List PyData) (vs : List V), Dvs K H ds vs → Dvs K H' ds vs
  | [], _, h => by rw [Dvs] at h ⊢; exact h
  | d :: ds, vs, h => by
    rw [Dvs] at h ⊢
    obtain ⟨v, r, e, h1, h2⟩ := h
    exact ⟨v, r, e, Dv.same k d v h1, Dvs.same k ds r h2⟩
end

mutual
theorem Dv.reads {X : Cx} {pins : List (Addr × Obj)} {σ : St} {H : Hp} {s : Shared} (I : Inv X pins σ H s) : ∀ (d : PyData) (v : V) (u : Value), Dv X.K H d v → RelV v u → ∃ as, Reads s.heap u d as
  | .none, _, _, h, r => by rw [dv_none.mp h] at r; cases r; exact ⟨_, .none⟩
  | .bool b, _, _, h, r => by rw [dv_bool.mp h] at r; cases r; exact ⟨_, .bool b⟩
  | .int i, _, _, h, r => by rw [dv_int.mp h] at r; obtain ⟨t, rfl⟩ := r; exact ⟨_, .int i t⟩
  | .str x, _, _, h, r => by rw [dv_str.mp h] at r; obtain ⟨t, rfl⟩ := r; exact ⟨_, .str x t⟩
  | .list ds, _, _, h, r => by
    obtain ⟨a, vs, rfl, hq, h⟩ := dv_list.mp h
    cases r
    obtain ⟨its, rv, pl, _⟩ := I.list hq
    obtain ⟨o, e, c, n, d⟩ := pl.isList
    obtain ⟨as, ra⟩ := Dvs.reads I ds vs its h rv
    exact ⟨_, .list e c d (by simpa using ra)⟩
  | .tuple ds, _, _, h, r => by
    obtain ⟨a, vs, rfl, hq, h⟩ := dv_tuple.mp h
    cases r
    obtain ⟨its, rv, pl, _⟩ := I.tuple hq
    obtain ⟨o, e, c, n, d⟩ := pl
    obtain ⟨as, ra⟩ := Dvs.reads I ds vs its h rv
    exact ⟨_, .tuple e c d (by simpa using ra)⟩
  | .dict _, _, _, h, _ => by rw [Dv] at h; exact h.elim
theorem Dvs.reads {X : Cx} {pins : List (Addr × Obj)} {σ : St} {H : Hp} {s : Shared} (I : Inv X pins σ H s) : ∀ (ds : List PyData) (vs : List V) (us : List Value), Dvs X.K H ds vs → Vals vs us → ∃ as, ReadsAll s.heap us ds as
  | [], _, _, h, r => by rw [Dvs] at h; subst h; cases r; exact ⟨_, .nil⟩
  | d :: ds, _, _, h, r => by
    rw [Dvs] at h
    obtain ⟨v, r', rfl, h1, h2⟩ := h
    cases r with
    | cons r1 r2 =>
      obtain ⟨as, a1⟩ := Dv.reads I d v _ h1 r1
      obtain ⟨bs, a2⟩ := Dvs.reads I ds r' _ h2 r2
      exact ⟨_, .cons a1 a2⟩
end
end L2

namespace L2
open PySem PySem.Spec PyProof.Rows PySem.SeqAt

mutual
def nd : PyData → Bool
  | .none => true | .bool _ => true | .int _ => true | .str _ => true
  | .list ds => nds ds
  | .tuple ds => nds ds
  | .dict _ => false
def nds : List PyData → Bool
  | [] => true
  | d :: ds => nd d && nds ds
end
mutual
theorem Dv.nd {K : PySem.W.Frag} {H : Hp} : ∀ (d : PyData) (v : V), Dv K H d v → nd d = true
  | .none, _, _ => by rw [L2.nd]
  | .bool _, _, _ => by rw [L2.nd]
  | .int _, _, _ => by rw [L2.nd]
  | .str _, _, _ => by rw [L2.nd]
  | .list ds, _, h => by
    obtain ⟨a, vs, _, _, h⟩ := dv_list.mp h
    rw [L2.nd]; exact Dvs.nd ds vs h
  | .tuple ds, _, h => by
    obtain ⟨a, vs, _, _, h⟩ := dv_tuple.mp h
    rw [L2.nd]; exact Dvs.nd ds vs h
  | .dict _, _, h => by rw [Dv] at h; exact h.elim
theorem Dvs.nd {K : PySem.W.Frag} {H : Hp} : ∀ (ds : List PyData) (vs : List V), Dvs K H ds vs → nds ds = true
  | [], _, _ => by rw [nds]
  | d :: ds, vs, h => by
    rw [Dvs] at h
    obtain ⟨v, r, _, h1, h2⟩ := h
    rw [nds, Dv.nd d v h1, Dvs.nd ds r h2]; rfl
end
mutual
theorem one_read {h : Heap} : ∀ (d d' : PyData) (v : Value) (as as' : List Addr), nd d = true → Reads h v d as → Reads h v d' as' → d = d'
  | .none, _, _, _, _, _, r, q => by cases r; cases q; rfl
  | .bool _, _, _, _, _, _, r, q => by cases r; cases q; rfl
  | .int _, _, _, _, _, _, r, q => by cases r; cases q; rfl
  | .str _, _, _, _, _, _, r, q => by cases r; cases q; rfl
  | .dict _, _, _, _, _, n, _, _ => by rw [L2.nd] at n; cases n
  | .list xs, d', _, _, _, n, r, q => by
    rw [L2.nd] at n
    cases r with
    | list a1 a2 a3 a4 =>
      cases q with
      | list b1 b2 b3 b4 => rw [a1] at b1; cases b1; rw [a3] at b3; cases b3; rw [one_reads xs _ _ _ _ n a4 b4]
      | tuple b1 b2 b3 b4 => rw [a1] at b1; cases b1; rw [a2] at b2; exact absurd b2 (by simp)
      | dict b1 b2 => rw [a1] at b1; cases b1; rw [a2] at b2; exact absurd b2 (by simp)
  | .tuple xs, d', _, _, _, n, r, q => by
    rw [L2.nd] at n
    cases r with
    | tuple a1 a2 a3 a4 =>
      cases q with
      | tuple b1 b2 b3 b4 => rw [a1] at b1; cases b1; rw [a3] at b3; cases b3; rw [one_reads xs _ _ _ _ n a4 b4]
      | list b1 b2 b3 b4 => rw [a1] at b1; cases b1; rw [a2] at b2; exact absurd b2 (by simp)
      | dict b1 b2 => rw [a1] at b1; cases b1; rw [a2] at b2; exact absurd b2 (by simp)
theorem one_reads {h : Heap} : ∀ (xs ys : List PyData) (vs : List Value) (as as' : List Addr), nds xs = true → ReadsAll h vs xs as → ReadsAll h vs ys as' → xs = ys
  | [], _, _, _, _, _, r, q => by cases r; cases q; rfl
  | x :: xs, _, _, _, _, n, r, q => by
    rw [nds, Bool.and_eq_true] at n
    cases r with
    | cons r1 r2 =>
      cases q with
      | cons q1 q2 => rw [one_read x _ _ _ _ n.1 r1 q1, one_reads xs _ _ _ _ n.2 r2 q2]
end
mutual
theorem eqv_self : ∀ d : PyData, nd d = true → PyData.eqv d d = true
  | .none, _ => rfl
  | .bool b, _ => by simp [PyData.eqv]
  | .int i, _ => by simp [PyData.eqv]
  | .str x, _ => by simp [PyData.eqv]
  | .list xs, h => by rw [PyData.eqv]; rw [L2.nd] at h; exact eqvs_self xs h
  | .tuple xs, h => by rw [PyData.eqv]; rw [L2.nd] at h; exact eqvs_self xs h
  | .dict _, h => by rw [L2.nd] at h; cases h
theorem eqvs_self : ∀ xs : List PyData, nds xs = true → PyData.eqvAll xs xs = true
  | [], _ => rfl
  | x :: xs, h => by
    rw [nds, Bool.and_eq_true] at h
    rw [PyData.eqvAll, eqv_self x h.1, eqvs_self xs h.2]; rfl
end
theorem readsAll_len {h : Heap} : ∀ {xs : List PyData} {vs : List Value} {as : List Addr}, ReadsAll h vs xs as → vs.length = xs.length
  | [], _, _, r => by cases r; rfl
  | _ :: xs, _, _, r => by
    cases r with
    | cons _ r' => rw [List.length_cons, List.length_cons, readsAll_len r']
mutual
theorem eqAt_own : ∀ (da db : PyData) (A : Around) (s : Shared) (a b : Value) (as bs : List Addr), Reads s.heap a da as → Reads s.heap b db bs → nd da = true → nd db = true → A.units + min da.depth db.depth < cLine → EqAt A s a b (PyData.eqv da db)
  | .none, db, A, s, _, _, _, _, ra, rb, _, hb, hu => by
    cases ra
    cases rb with
    | none => exact EqAt.same _
    | bool y => exact EqAt.none_bool y
    | int y u => exact EqAt.none_int y u
    | str y u => exact EqAt.none_str y u
    | list k1 k2 k3 k4 => exact EqAt.none_list ⟨_, k1, k2, _, k3⟩ (room_here hu)
    | tuple k1 k2 k3 k4 => exact EqAt.none_tuple ⟨_, k1, k2, _, k3⟩ (room_here hu)
    | dict => rw [L2.nd] at hb; cases hb
  | .bool x, db, A, s, _, _, _, _, ra, rb, _, hb, hu => by
    cases ra
    cases rb with
    | none => exact EqAt.bool_none x
    | bool y => exact EqAt.bool_bool x y
    | int y u => exact EqAt.bool_int x y u
    | str y u => exact EqAt.bool_str x y u
    | list k1 k2 k3 k4 => exact EqAt.bool_list x ⟨_, k1, k2, _, k3⟩ (room_here hu)
    | tuple k1 k2 k3 k4 => exact EqAt.bool_tuple x ⟨_, k1, k2, _, k3⟩ (room_here hu)
    | dict => rw [L2.nd] at hb; cases hb
  | .int x, db, A, s, _, _, _, _, ra, rb, _, hb, hu => by
    cases ra
    cases rb with
    | none => exact EqAt.int_none x _
    | bool y => exact EqAt.int_bool x _ y
    | int y u => exact EqAt.int_int x _ y u
    | str y u => exact EqAt.int_str x _ y u
    | list k1 k2 k3 k4 => exact EqAt.int_list x _ ⟨_, k1, k2, _, k3⟩ (room_here hu)
    | tuple k1 k2 k3 k4 => exact EqAt.int_tuple x _ ⟨_, k1, k2, _, k3⟩ (room_here hu)
    | dict => rw [L2.nd] at hb; cases hb
  | .str x, db, A, s, _, _, _, _, ra, rb, _, hb, hu => by
    cases ra
    cases rb with
    | none => exact EqAt.str_none x _
    | bool y => exact EqAt.str_bool x _ y
    | int y u => exact EqAt.str_int x _ y u
    | str y u => exact EqAt.str_str x _ y u
    | list k1 k2 k3 k4 => exact EqAt.str_list x _ ⟨_, k1, k2, _, k3⟩ (room_here hu)
    | tuple k1 k2 k3 k4 => exact EqAt.str_tuple x _ ⟨_, k1, k2, _, k3⟩ (room_here hu)
    | dict => rw [L2.nd] at hb; cases hb
  | .list xs, db, A, s, _, _, _, _, ra, rb, ha, hb, hu => by
    have ra0 := ra
    have rb0 := rb
    cases ra with
    | @list l o1 vs1 n1 xs as h1 h2 h3 h4 =>
      cases rb with
      | none => exact EqAt.list_none ⟨_, h1, h2, _, h3⟩ (room_here hu)
      | bool y => exact EqAt.list_bool y ⟨_, h1, h2, _, h3⟩ (room_here hu)
      | int y u => exact EqAt.list_int y u ⟨_, h1, h2, _, h3⟩ (room_here hu)
      | str y u => exact EqAt.list_str y u ⟨_, h1, h2, _, h3⟩ (room_here hu)
      | tuple k1 k2 k3 k4 => exact EqAt.list_tuple ⟨_, h1, h2, _, h3⟩ ⟨_, k1, k2, _, k3⟩ (room_here hu)
      | @list b o vs2 n2 ys bs k1 k2 k3 k4 =>
        by_cases e : l = b
        · subst e
          rw [one_read _ _ _ _ _ ha ra0 rb0, eqv_self _ hb]
          exact EqAt.same _
        · refine EqAt.of_refs e ?_
          have l1 := readsAll_len h4
          have l2 := readsAll_len k4
          rw [L2.nd] at ha hb
          by_cases hz : xs.length = ys.length
          · have := RcAt.lists (A := A) (s := s) (e := pairEq xs ys) ⟨_, h1, h2, _, h3⟩ ⟨_, k1, k2, _, k3⟩ (by simp at l1 l2; omega) (room_here hu) (fun j h1 h2 => by have q := eqAt_items xs ys A.in1 s _ _ _ _ h4 k4 ha hb (room_in (by rw [PyData.depth, PyData.depth] at hu; exact hu)) j (by simpa using h1) (by simpa using h2); rw [Array.getElem_toList, Array.getElem_toList] at q; exact q)
            rw [show PyData.eqv (.list xs) (.list ys) = PyData.eqvAll xs ys by rw [PyData.eqv], ← eqvAll_same_length hz]
            have e1 : vs1.size = xs.length := by simpa using l1
            rw [e1] at this
            exact this
          · rw [show PyData.eqv (.list xs) (.list ys) = PyData.eqvAll xs ys by rw [PyData.eqv], eqvAll_other_length hz]
            exact RcAt.lists_lengths ⟨_, h1, h2, _, h3⟩ ⟨_, k1, k2, _, k3⟩ (by simp at l1 l2; simp; omega) (room_here hu)
      | dict => rw [L2.nd] at hb; cases hb
  | .tuple xs, db, A, s, _, _, _, _, ra, rb, ha, hb, hu => by
    have ra0 := ra
    have rb0 := rb
    cases ra with
    | @tuple l o1 vs1 n1 xs as h1 h2 h3 h4 =>
      cases rb with
      | none => exact EqAt.tuple_none ⟨_, h1, h2, _, h3⟩ (room_here hu)
      | bool y => exact EqAt.tuple_bool y ⟨_, h1, h2, _, h3⟩ (room_here hu)
      | int y u => exact EqAt.tuple_int y u ⟨_, h1, h2, _, h3⟩ (room_here hu)
      | str y u => exact EqAt.tuple_str y u ⟨_, h1, h2, _, h3⟩ (room_here hu)
      | list k1 k2 k3 k4 => exact EqAt.tuple_list ⟨_, h1, h2, _, h3⟩ ⟨_, k1, k2, _, k3⟩ (room_here hu)
      | @tuple b o vs2 n2 ys bs k1 k2 k3 k4 =>
        by_cases e : l = b
        · subst e
          rw [one_read _ _ _ _ _ ha ra0 rb0, eqv_self _ hb]
          exact EqAt.same _
        · refine EqAt.of_refs e ?_
          have l1 := readsAll_len h4
          have l2 := readsAll_len k4
          rw [L2.nd] at ha hb
          have := RcAt.tuples (A := A) (s := s) (e := pairEq xs ys) ⟨_, h1, h2, _, h3⟩ ⟨_, k1, k2, _, k3⟩ (room_here hu) (fun j h1 h2 => by have q := eqAt_items xs ys A.in1 s _ _ _ _ h4 k4 ha hb (room_in (by rw [PyData.depth, PyData.depth] at hu; exact hu)) j (by simpa using h1) (by simpa using h2); rw [Array.getElem_toList, Array.getElem_toList] at q; exact q)
          rw [show PyData.eqv (.tuple xs) (.tuple ys) = PyData.eqvAll xs ys by rw [PyData.eqv], ← eqvAll_eq xs ys]
          have e1 : vs1.size = xs.length := by simpa using l1
          have e2 : vs2.size = ys.length := by simpa using l2
          rw [e1, e2] at this
          exact this
      | dict => rw [L2.nd] at hb; cases hb
  | .dict _, _, _, _, _, _, _, _, _, _, ha, _, _ => by rw [L2.nd] at ha; cases ha
theorem eqAt_items : ∀ (xs ys : List PyData) (A : Around) (s : Shared) (us ws : List Value) (as bs : List Addr), ReadsAll s.heap us xs as → ReadsAll s.heap ws ys bs → nds xs = true → nds ys = true → A.units + min (PyData.depthAll xs) (PyData.depthAll ys) < cLine →
    ∀ j (h1 : j < us.length) (h2 : j < ws.length), EqAt A s us[j] ws[j] (pairEq xs ys j)
  | [], _, _, _, _, _, _, _, r, _, _, _, _ => by cases r; intro j h1; simp at h1
  | x :: xs, ys, A, s, _, ws, _, _, r, q, ha, hb, hu => by
    cases r with
    | @cons u us d ds as1 as2 r1 r2 =>
      cases q with
      | nil => intro j h1 h2; simp at h2
      | @cons w ws y ys bs1 bs2 q1 q2 =>
        rw [nds, Bool.and_eq_true] at ha hb
        rw [PyData.depthAll, PyData.depthAll] at hu
        intro j h1 h2
        cases j with
        | zero => exact eqAt_own x y A s u w _ _ r1 q1 ha.1 hb.1 (room_head hu)
        | succ j =>
          exact eqAt_items xs ys A s us ws _ _ r2 q2 ha.2 hb.2 (room_tail hu) j (by simpa using h1) (by simpa using h2)
end
theorem rc_own {da db : PyData} {A : Around} {s : Shared} {a b : Value} {as bs : List Addr} (ra : Reads s.heap a da as) (rb : Reads s.heap b db bs) (ha : nd da = true) (hb : nd db = true) (hu : A.units + min da.depth db.depth < cLine) : RcAt A s a b (PyData.eqv da db) := by
  cases ra with
  | none =>
    cases rb with
    | none => exact RcAt.none_none
    | bool y => exact RcAt.none_bool y
    | int y u => exact RcAt.none_int y u
    | str y u => exact RcAt.none_str y u
    | @list l2 o2 ws n2 ys bs k1 k2 k3 k4 => exact RcAt.none_list ⟨_, k1, k2, _, k3⟩ (room_here hu)
    | @tuple l2 o2 ws n2 ys bs k1 k2 k3 k4 => exact RcAt.none_tuple ⟨_, k1, k2, _, k3⟩ (room_here hu)
    | dict => rw [L2.nd] at hb; cases hb
  | bool x =>
    cases rb with
    | none => exact RcAt.bool_none x
    | bool y => exact RcAt.bool_bool x y
    | int y u => exact RcAt.bool_int x y u
    | str y u => exact RcAt.bool_str x y u
    | @list l2 o2 ws n2 ys bs k1 k2 k3 k4 => exact RcAt.bool_list x ⟨_, k1, k2, _, k3⟩ (room_here hu)
    | @tuple l2 o2 ws n2 ys bs k1 k2 k3 k4 => exact RcAt.bool_tuple x ⟨_, k1, k2, _, k3⟩ (room_here hu)
    | dict => rw [L2.nd] at hb; cases hb
  | int x t =>
    cases rb with
    | none => exact RcAt.int_none x t
    | bool y => exact RcAt.int_bool x t y
    | int y u => exact RcAt.int_int x t y u
    | str y u => exact RcAt.int_str x t y u
    | @list l2 o2 ws n2 ys bs k1 k2 k3 k4 => exact RcAt.int_list x t ⟨_, k1, k2, _, k3⟩ (room_here hu)
    | @tuple l2 o2 ws n2 ys bs k1 k2 k3 k4 => exact RcAt.int_tuple x t ⟨_, k1, k2, _, k3⟩ (room_here hu)
    | dict => rw [L2.nd] at hb; cases hb
  | str x t =>
    cases rb with
    | none => exact RcAt.str_none x t
    | bool y => exact RcAt.str_bool x t y
    | int y u => exact RcAt.str_int x t y u
    | str y u => exact RcAt.str_str x t y u
    | @list l2 o2 ws n2 ys bs k1 k2 k3 k4 => exact RcAt.str_list x t ⟨_, k1, k2, _, k3⟩ (room_here hu)
    | @tuple l2 o2 ws n2 ys bs k1 k2 k3 k4 => exact RcAt.str_tuple x t ⟨_, k1, k2, _, k3⟩ (room_here hu)
    | dict => rw [L2.nd] at hb; cases hb
  | @list l o vs n xs as h1 h2 h3 h4 =>
    cases rb with
    | none => exact RcAt.list_none ⟨_, h1, h2, _, h3⟩ (room_here hu)
    | bool y => exact RcAt.list_bool y ⟨_, h1, h2, _, h3⟩ (room_here hu)
    | int y u => exact RcAt.list_int y u ⟨_, h1, h2, _, h3⟩ (room_here hu)
    | str y u => exact RcAt.list_str y u ⟨_, h1, h2, _, h3⟩ (room_here hu)
    | @list l2 o2 ws n2 ys bs k1 k2 k3 k4 =>
      have l1 : vs.size = xs.length := by simpa using readsAll_len h4
      have l2 : ws.size = ys.length := by simpa using readsAll_len k4
      rw [L2.nd] at ha hb
      rw [PyData.depth, PyData.depth] at hu
      have hi : ∀ j (h1 : j < vs.size) (h2 : j < ws.size), EqAt A.in1 s vs[j] ws[j] (pairEq xs ys j) := fun j h1 h2 => by
        have q := eqAt_items xs ys A.in1 s _ _ _ _ h4 k4 ha hb (room_in hu) j (by simpa using h1) (by simpa using h2)
        rw [Array.getElem_toList, Array.getElem_toList] at q
        exact q
      have hu' : A.units < cLine := room_here hu
      rw [show PyData.eqv (.list xs) (.list ys) = PyData.eqvAll xs ys by rw [PyData.eqv]]
      by_cases hz : xs.length = ys.length
      · have q := RcAt.lists (A := A) (s := s) (e := pairEq xs ys) ⟨_, h1, h2, _, h3⟩ ⟨_, k1, k2, _, k3⟩ (by omega) hu' hi
        rw [l1, eqvAll_same_length hz] at q
        exact q
      · rw [eqvAll_other_length hz]
        exact RcAt.lists_lengths ⟨_, h1, h2, _, h3⟩ ⟨_, k1, k2, _, k3⟩ (by simp; omega) hu'
    | @tuple l2 o2 ws n2 ys bs k1 k2 k3 k4 => exact RcAt.list_tuple ⟨_, h1, h2, _, h3⟩ ⟨_, k1, k2, _, k3⟩ (room_here hu)
    | dict => rw [L2.nd] at hb; cases hb
  | @tuple l o vs n xs as h1 h2 h3 h4 =>
    cases rb with
    | none => exact RcAt.tuple_none ⟨_, h1, h2, _, h3⟩ (room_here hu)
    | bool y => exact RcAt.tuple_bool y ⟨_, h1, h2, _, h3⟩ (room_here hu)
    | int y u => exact RcAt.tuple_int y u ⟨_, h1, h2, _, h3⟩ (room_here hu)
    | str y u => exact RcAt.tuple_str y u ⟨_, h1, h2, _, h3⟩ (room_here hu)
    | @list l2 o2 ws n2 ys bs k1 k2 k3 k4 => exact RcAt.tuple_list ⟨_, h1, h2, _, h3⟩ ⟨_, k1, k2, _, k3⟩ (room_here hu)
    | @tuple l2 o2 ws n2 ys bs k1 k2 k3 k4 =>
      have l1 : vs.size = xs.length := by simpa using readsAll_len h4
      have l2 : ws.size = ys.length := by simpa using readsAll_len k4
      rw [L2.nd] at ha hb
      rw [PyData.depth, PyData.depth] at hu
      have hi : ∀ j (h1 : j < vs.size) (h2 : j < ws.size), EqAt A.in1 s vs[j] ws[j] (pairEq xs ys j) := fun j h1 h2 => by
        have q := eqAt_items xs ys A.in1 s _ _ _ _ h4 k4 ha hb (room_in hu) j (by simpa using h1) (by simpa using h2)
        rw [Array.getElem_toList, Array.getElem_toList] at q
        exact q
      have hu' : A.units < cLine := room_here hu
      rw [show PyData.eqv (.tuple xs) (.tuple ys) = PyData.eqvAll xs ys by rw [PyData.eqv]]
      have q := RcAt.tuples (A := A) (s := s) (e := pairEq xs ys) ⟨_, h1, h2, _, h3⟩ ⟨_, k1, k2, _, k3⟩ hu' hi
      rw [l1, l2, eqvAll_eq xs ys] at q
      exact q
    | dict => rw [L2.nd] at hb; cases hb
  | dict => rw [L2.nd] at ha; cases ha
theorem rcNe_own {da db : PyData} {A : Around} {s : Shared} {a b : Value} {as bs : List Addr} (ra : Reads s.heap a da as) (rb : Reads s.heap b db bs) (ha : nd da = true) (hb : nd db = true) (hu : A.units + min da.depth db.depth < cLine) : RcNeAt A s a b (!PyData.eqv da db) := by
  cases ra with
  | none =>
    cases rb with
    | none => exact RcNeAt.none_none
    | bool y => exact RcNeAt.none_bool y
    | int y u => exact RcNeAt.none_int y u
    | str y u => exact RcNeAt.none_str y u
    | @list l2 o2 ws n2 ys bs k1 k2 k3 k4 => exact RcNeAt.none_list ⟨_, k1, k2, _, k3⟩ (room_here hu)
    | @tuple l2 o2 ws n2 ys bs k1 k2 k3 k4 => exact RcNeAt.none_tuple ⟨_, k1, k2, _, k3⟩ (room_here hu)
    | dict => rw [L2.nd] at hb; cases hb
  | bool x =>
    cases rb with
    | none => exact RcNeAt.bool_none x
    | bool y => exact RcNeAt.bool_bool x y
    | int y u => exact RcNeAt.bool_int x y u
    | str y u => exact RcNeAt.bool_str x y u
    | @list l2 o2 ws n2 ys bs k1 k2 k3 k4 => exact RcNeAt.bool_list x ⟨_, k1, k2, _, k3⟩ (room_here hu)
    | @tuple l2 o2 ws n2 ys bs k1 k2 k3 k4 => exact RcNeAt.bool_tuple x ⟨_, k1, k2, _, k3⟩ (room_here hu)
    | dict => rw [L2.nd] at hb; cases hb
  | int x t =>
    cases rb with
    | none => exact RcNeAt.int_none x t
    | bool y => exact RcNeAt.int_bool x t y
    | int y u => exact RcNeAt.int_int x t y u
    | str y u => exact RcNeAt.int_str x t y u
    | @list l2 o2 ws n2 ys bs k1 k2 k3 k4 => exact RcNeAt.int_list x t ⟨_, k1, k2, _, k3⟩ (room_here hu)
    | @tuple l2 o2 ws n2 ys bs k1 k2 k3 k4 => exact RcNeAt.int_tuple x t ⟨_, k1, k2, _, k3⟩ (room_here hu)
    | dict => rw [L2.nd] at hb; cases hb
  | str x t =>
    cases rb with
    | none => exact RcNeAt.str_none x t
    | bool y => exact RcNeAt.str_bool x t y
    | int y u => exact RcNeAt.str_int x t y u
    | str y u => exact RcNeAt.str_str x t y u
    | @list l2 o2 ws n2 ys bs k1 k2 k3 k4 => exact RcNeAt.str_list x t ⟨_, k1, k2, _, k3⟩ (room_here hu)
    | @tuple l2 o2 ws n2 ys bs k1 k2 k3 k4 => exact RcNeAt.str_tuple x t ⟨_, k1, k2, _, k3⟩ (room_here hu)
    | dict => rw [L2.nd] at hb; cases hb
  | @list l o vs n xs as h1 h2 h3 h4 =>
    cases rb with
    | none => exact RcNeAt.list_none ⟨_, h1, h2, _, h3⟩ (room_here hu)
    | bool y => exact RcNeAt.list_bool y ⟨_, h1, h2, _, h3⟩ (room_here hu)
    | int y u => exact RcNeAt.list_int y u ⟨_, h1, h2, _, h3⟩ (room_here hu)
    | str y u => exact RcNeAt.list_str y u ⟨_, h1, h2, _, h3⟩ (room_here hu)
    | @list l2 o2 ws n2 ys bs k1 k2 k3 k4 =>
      have l1 : vs.size = xs.length := by simpa using readsAll_len h4
      have l2 : ws.size = ys.length := by simpa using readsAll_len k4
      rw [L2.nd] at ha hb
      rw [PyData.depth, PyData.depth] at hu
      have hi : ∀ j (h1 : j < vs.size) (h2 : j < ws.size), EqAt A.in1 s vs[j] ws[j] (pairEq xs ys j) := fun j h1 h2 => by
        have q := eqAt_items xs ys A.in1 s _ _ _ _ h4 k4 ha hb (room_in hu) j (by simpa using h1) (by simpa using h2)
        rw [Array.getElem_toList, Array.getElem_toList] at q
        exact q
      have hu' : A.units < cLine := room_here hu
      rw [show PyData.eqv (.list xs) (.list ys) = PyData.eqvAll xs ys by rw [PyData.eqv]]
      by_cases hz : xs.length = ys.length
      · have q := RcNeAt.lists (A := A) (s := s) (e := pairEq xs ys) ⟨_, h1, h2, _, h3⟩ ⟨_, k1, k2, _, k3⟩ (by omega) hu' hi
        rw [l1, eqvAll_same_length hz] at q
        exact q
      · rw [eqvAll_other_length hz]
        exact RcNeAt.lists_lengths ⟨_, h1, h2, _, h3⟩ ⟨_, k1, k2, _, k3⟩ (by simp; omega) hu'
    | @tuple l2 o2 ws n2 ys bs k1 k2 k3 k4 => exact RcNeAt.list_tuple ⟨_, h1, h2, _, h3⟩ ⟨_, k1, k2, _, k3⟩ (room_here hu)
    | dict => rw [L2.nd] at hb; cases hb
  | @tuple l o vs n xs as h1 h2 h3 h4 =>
    cases rb with
    | none => exact RcNeAt.tuple_none ⟨_, h1, h2, _, h3⟩ (room_here hu)
    | bool y => exact RcNeAt.tuple_bool y ⟨_, h1, h2, _, h3⟩ (room_here hu)
    | int y u => exact RcNeAt.tuple_int y u ⟨_, h1, h2, _, h3⟩ (room_here hu)
    | str y u => exact RcNeAt.tuple_str y u ⟨_, h1, h2, _, h3⟩ (room_here hu)
    | @list l2 o2 ws n2 ys bs k1 k2 k3 k4 => exact RcNeAt.tuple_list ⟨_, h1, h2, _, h3⟩ ⟨_, k1, k2, _, k3⟩ (room_here hu)
    | @tuple l2 o2 ws n2 ys bs k1 k2 k3 k4 =>
      have l1 : vs.size = xs.length := by simpa using readsAll_len h4
      have l2 : ws.size = ys.length := by simpa using readsAll_len k4
      rw [L2.nd] at ha hb
      rw [PyData.depth, PyData.depth] at hu
      have hi : ∀ j (h1 : j < vs.size) (h2 : j < ws.size), EqAt A.in1 s vs[j] ws[j] (pairEq xs ys j) := fun j h1 h2 => by
        have q := eqAt_items xs ys A.in1 s _ _ _ _ h4 k4 ha hb (room_in hu) j (by simpa using h1) (by simpa using h2)
        rw [Array.getElem_toList, Array.getElem_toList] at q
        exact q
      have hu' : A.units < cLine := room_here hu
      rw [show PyData.eqv (.tuple xs) (.tuple ys) = PyData.eqvAll xs ys by rw [PyData.eqv]]
      have q := RcNeAt.tuples (A := A) (s := s) (e := pairEq xs ys) ⟨_, h1, h2, _, h3⟩ ⟨_, k1, k2, _, k3⟩ hu' hi
      rw [l1, l2, eqvAll_eq xs ys] at q
      exact q
    | dict => rw [L2.nd] at hb; cases hb
  | dict => rw [L2.nd] at ha; cases ha
end L2

namespace L2
open PySem PySem.Spec PyProof.Rows PySem.SeqAt

section
variable {X : Cx}

def rEqA (K : PySem.W.Frag) : R2 := fun x y H Q => rEq x y H Q ∨ ∃ d e, Dv K H d x ∧ Dv K H e y ∧ d.depth ≤ 64 ∧ Q (.bl (PyData.eqv d e)) H
def rNeA (K : PySem.W.Frag) : R2 := fun x y H Q => rNe x y H Q ∨ ∃ d e, Dv K H d x ∧ Dv K H e y ∧ d.depth ≤ 64 ∧ Q (.bl (!PyData.eqv d e)) H
theorem op_eqA (hu : X.A.units + 64 < cLine) : OpR X (compareOp .Eq) (rEqA X.K) := by
  refine op_eq.or ?_
  intro pins s σ H x y v u Q I rx ry h
  obtain ⟨d, e, hx, hy, hz, q⟩ := h
  obtain ⟨as, ra⟩ := Dv.reads I d x v hx rx
  obtain ⟨bs, rb⟩ := Dv.reads I e y u hy ry
  have hroom : X.A.units + min d.depth e.depth < cLine := Nat.lt_of_le_of_lt (Nat.add_le_add_left (Nat.le_trans (Nat.min_le_left _ _) hz) _) hu
  exact rc_own ra rb (Dv.nd d x hx) (Dv.nd e y hy) hroom X.prog X.w X.xe _ ⟨.bl _, H, I, rfl, q⟩
theorem op_neA (hu : X.A.units + 64 < cLine) : OpR X (compareOp .NotEq) (rNeA X.K) := by
  refine op_ne.or ?_
  intro pins s σ H x y v u Q I rx ry h
  obtain ⟨d, e, hx, hy, hz, q⟩ := h
  obtain ⟨as, ra⟩ := Dv.reads I d x v hx rx
  obtain ⟨bs, rb⟩ := Dv.reads I e y u hy ry
  have hroom : X.A.units + min d.depth e.depth < cLine := Nat.lt_of_le_of_lt (Nat.add_le_add_left (Nat.le_trans (Nat.min_le_left _ _) hz) _) hu
  exact rcNe_own ra rb (Dv.nd d x hx) (Dv.nd e y hy) hroom X.prog X.w X.xe _ ⟨.bl _, H, I, rfl, q⟩

def rAddA (K : PySem.W.Frag) : R2 := fun x y H Q => rI0 (fun i j => .int (i + j)) x y H Q ∨ (∃ i j, x = .str i ∧ y = .str j ∧ i.length + j.length ≤ sizeLine ∧ Q (.str (i ++ j)) H) ∨ rCat x y H Q ∨ rCatT K x y H Q
theorem op_addA : OpR X (binaryOp .Add) (rAddA X.K) := op_add.or (op_add_str.or (op_cat.or op_catT))
def rMulS : R2 := fun x y H Q => ∃ z n, x = .str z ∧ y = .int n ∧ 0 ≤ n ∧ n ≤ 1000 ∧ z.length ≤ 1000 ∧ Q (.str (PySem.Txt.mul z n)) H
theorem op_mul_str : OpR X (binaryOp .Mult) rMulS := by
  intro pins s σ H x y v u Q I rx ry h
  obtain ⟨z, n, rfl, rfl, h0, h1, h2, q⟩ := h
  obtain ⟨t, rfl⟩ := rx
  obtain ⟨t', rfl⟩ := ry
  refine wpAny_with_toks (n := 1) I.tk (SB.mul ⟨?_, fun hn _ => ?_, fun hn _ => ?_⟩ fun t' k ht => ⟨.str _, H, I.tok _ ht, ⟨_, rfl⟩, q⟩)
  · rw [decide_eq_false (by omega), decide_eq_false (by omega)]; rfl
  · have e1 : (2 ^ 63 - 1 : Int) / n ≥ (2 ^ 63 - 1) / 1000 := by
      have hp : (0 : Int) < n := by omega
      apply Int.le_ediv_of_mul_le hp
      have : (2 ^ 63 - 1 : Int) / 1000 * n ≤ (2 ^ 63 - 1) / 1000 * 1000 := Int.mul_le_mul_of_nonneg_left h1 (by decide)
      have e : (2 ^ 63 - 1 : Int) / 1000 * 1000 ≤ 2 ^ 63 - 1 := by decide
      omega
    have e2 : (2 ^ 63 - 1 : Int) / 1000 ≥ 1000 := by decide
    omega
  · have : z.length * n.toNat ≤ 1000 * 1000 := Nat.mul_le_mul h2 (by omega)
    have hs : sizeLine = 16777216 := sizeLine_eq
    unfold Builtin.Str.tooLong
    exact decide_eq_false (by omega)
def rMulA : R2 := fun x y H Q => rI CMul (fun i j => .int (i * j)) x y H Q ∨ rMulS x y H Q ∨ rRep x y H Q
theorem op_mulA : OpR X (binaryOp .Mult) rMulA := op_mul.or (op_mul_str.or op_rep)

def rLtS : R2 := fun x y H Q => ∃ i j : Str, x = .str i ∧ y = .str j ∧ Q (.bl (decide (i.cps.toList < j.cps.toList))) H
def rLeS : R2 := fun x y H Q => ∃ i j : Str, x = .str i ∧ y = .str j ∧ Q (.bl (!decide (j.cps.toList < i.cps.toList))) H
def rGtS : R2 := fun x y H Q => ∃ i j : Str, x = .str i ∧ y = .str j ∧ Q (.bl (decide (j.cps.toList < i.cps.toList))) H
def rGeS : R2 := fun x y H Q => ∃ i j : Str, x = .str i ∧ y = .str j ∧ Q (.bl (!decide (i.cps.toList < j.cps.toList))) H
theorem op_le_str : OpR X (compareOp .LtE) rLeS := by
  intro pins s σ H x y v u Q I rx ry h
  obtain ⟨i, j, rfl, rfl, q⟩ := h
  obtain ⟨t, rfl⟩ := rx
  obtain ⟨t', rfl⟩ := ry
  exact PySem.P.le_str ⟨.bl _, H, I, rfl, q⟩
theorem op_gt_str : OpR X (compareOp .Gt) rGtS := by
  intro pins s σ H x y v u Q I rx ry h
  obtain ⟨i, j, rfl, rfl, q⟩ := h
  obtain ⟨t, rfl⟩ := rx
  obtain ⟨t', rfl⟩ := ry
  exact PySem.P.gt_str ⟨.bl _, H, I, rfl, q⟩
def rLtA : R2 := fun x y H Q => rI0 (fun i j => .bl (decide (i < j))) x y H Q ∨ rLtS x y H Q
def rLeA : R2 := fun x y H Q => rI0 (fun i j => .bl (decide (i ≤ j))) x y H Q ∨ rLeS x y H Q
def rGtA : R2 := fun x y H Q => rI0 (fun i j => .bl (decide (j < i))) x y H Q ∨ rGtS x y H Q
def rGeA : R2 := fun x y H Q => rI0 (fun i j => .bl (decide (j ≤ i))) x y H Q ∨ rGeS x y H Q
theorem op_ltA : OpR X (compareOp .Lt) rLtA := op_lt.or op_lt_str
theorem op_leA : OpR X (compareOp .LtE) rLeA := op_le.or op_le_str
theorem op_gtA : OpR X (compareOp .Gt) rGtA := op_gt.or op_gt_str
def rInS (neg : Bool) : R2 := fun x y H Q => ∃ i j : Str, x = .str i ∧ y = .str j ∧ Q (.bl (if neg then !(!(Builtin.Str.occurrences j i 0 j.length 1).isEmpty) else !(Builtin.Str.occurrences j i 0 j.length 1).isEmpty)) H
def rInA (K : PySem.W.Frag) (neg : Bool) : R2 := fun x y H Q => rIn K neg x y H Q ∨ rInS neg x y H Q
theorem op_inA : OpR X (compareOp .In) (rInA X.K false) := op_in_seq.or op_in_str
theorem op_notinA : OpR X (compareOp .NotIn) (rInA X.K true) := op_notIn_seq.or op_notIn_str

def rIsA : R2 := fun x y H Q => y = .non ∧ Q (.bl (decide (x = .non))) H
def rIsNotA : R2 := fun x y H Q => y = .non ∧ Q (.bl (!decide (x = .non))) H
theorem op_isA : OpR X (compareOp .Is) rIsA := op_isN
theorem op_isnotA : OpR X (compareOp .IsNot) rIsNotA := op_notN

def rLenA (K : PySem.W.Frag) : List V → Hp → VK → Prop := fun xs H Q => (∃ p ys, xs = [.ref p] ∧ (SqL K H p ys ∨ SqT K H p ys) ∧ Q (.int ys.length) H) ∨ (∃ z, xs = [.str z] ∧ z.length ≤ sizeLine ∧ Q (.int z.length) H) ∨
  ∃ a kvs, xs = [V.ref a] ∧ H a = some (.dK kvs) ∧ Q (.int kvs.length) H
theorem call_lenA : CallR X (.builtin "len") (rLenA X.K) := call_len_seq.or (call_len_str.or call_lenD)
def rListA (K : PySem.W.Frag) : List V → Hp → VK → Prop := fun xs H Q => ∃ p ys, xs = [.ref p] ∧ (SqL K H p ys ∨ SqT K H p ys) ∧ ∀ l, H l = none → Q (.ref l) (upd H l (.lst ys))
theorem call_listA : CallR X (.type "list") (rListA X.K) := call_list_of
def rTupleA (K : PySem.W.Frag) : List V → Hp → VK → Prop := fun xs H Q => ∃ p ys, xs = [.ref p] ∧ ((SqL K H p ys ∧ ∀ l, H l = none → Q (.ref l) (upd H l (.tup ys))) ∨ (SqT K H p ys ∧ Q (.ref p) H))
theorem call_tupleA : CallR X (.type "tuple") (rTupleA X.K) := call_tuple_of
def rIntA : List V → Hp → VK → Prop := fun xs H Q => (∃ i, xs = [.int i] ∧ Q (.int i) H) ∨ ∃ k, xs = [.bl k] ∧ Q (.int (if k then 1 else 0)) H
theorem call_intA : CallR X (.type "int") rIntA := call_int1

theorem strs_are : ∀ {xs : List Str} {us : List Value}, Vals (strV xs) us → StrsAre us xs
  | [], _, h => by cases h; exact .nil
  | x :: xs, _, h => by
    have h : Vals (V.str x :: strV xs) _ := h
    cases h with
    | cons r t =>
      obtain ⟨t', rfl⟩ := r
      exact .cons x t' (strs_are t)
theorem vals_strs : ∀ {xs : List Str} {us : List Value}, StrsAre us xs → Vals (strV xs) us
  | _, _, .nil => .nil
  | _, _, .cons y t h => .cons ⟨t, rfl⟩ (vals_strs h)
def rSortedS (K : PySem.W.Frag) : List V → Hp → VK → Prop := fun xs H Q => ∃ p ys, xs = [.ref p] ∧ SqL K H p (strV ys) ∧ ys.length < 64 ∧
  ∀ l ys', ys'.Perm ys → sortedS ys' = true → H l = none → Q (.ref l) (upd H l (.lst (strV ys')))
theorem call_sortedA : CallR X (.builtin "sorted") (rSortedS X.K) := by
  intro pins s σ H xs us Q I r h
  obtain ⟨p, ys, rfl, hq, hl, q⟩ := h
  obtain ⟨u, rfl, rx⟩ := vals1 r
  cases rx
  obtain ⟨its, rv, pl, hz⟩ := I.list hq
  have hlen := rv.length
  have hn : (strV ys).length = ys.length := List.length_map _
  refine sorted_strs pl.isList (strs_are rv) (by omega) fun out ss' h1 h2 h3 => ?_
  have kp : ∀ b o, s.heap.get? b = some o → (sortedAll s.heap its out).get? b = some o := fun b o e => sortedAll_old e
  obtain ⟨e, he⟩ := sortedAll_at s.heap its out
  have hf : H (s.heap.objs.size + 1) = none := I.hok.fresh (Nat.le_succ _)
  have hz' : (strV ss').length ≤ sizeLine := by
    have := h2.length_eq
    show (ss'.map V.str).length ≤ _
    rw [List.length_map]; rw [hn] at hz; omega
  refine ⟨.ref (s.heap.objs.size + 1), _, I.laid (t' := s.toks) (o := .lst (strV ss')) kp (Nat.le_succ _) ?_, rfl, q _ _ h2 h3 hf⟩
  exact ⟨hz', out.toList, e, vals_strs h1, by simpa [seqObj] using he⟩

def rJoin (K : PySem.W.Frag) : V → List V → Hp → VK → Prop := fun x vs H Q => ∃ z p ys, x = .str z ∧ vs = [.ref p] ∧ (SqL K H p (strV ys) ∨ SqT K H p (strV ys)) ∧ (ys.map (·.length)).sum + ys.length * z.length ≤ 16777216 ∧ Q (.str (PySem.Txt.join z ys)) H
theorem mt_join : MtR X "str.join" (rJoin X.K) := by
  intro pins s σ H x vs v us Q I rx rv h
  obtain ⟨z, p, ys, rfl, rfl, hq, hs, q⟩ := h
  obtain ⟨t, rfl⟩ := rx
  obtain ⟨u, rfl, ru⟩ := rv.one
  cases ru
  rcases hq with hq | hq
  · obtain ⟨its, r, pl, hz⟩ := I.list hq
    exact wpAny_with_toks (n := 1) I.tk (join_list pl.isList (by simpa using strs_are r) hs fun t' k ht => ⟨.str _, H, I.tok _ ht, ⟨_, rfl⟩, q⟩)
  · obtain ⟨its, r, pl, hz⟩ := I.tuple hq
    exact wpAny_with_toks (n := 1) I.tk (join_tuple pl (by simpa using strs_are r) hs fun t' k ht => ⟨.str _, H, I.tok _ ht, ⟨_, rfl⟩, q⟩)
def insAt {α : Type} (xs : List α) (k : Nat) (y : α) : List α := xs.take k ++ y :: xs.drop k
def rInsert : V → List V → Hp → VK → Prop := fun x vs H Q => ∃ (l : Addr) (xs : List V) (i : Int) (y : V), x = .ref l ∧ vs = [.int i, y] ∧ H l = some (.lst xs) ∧ 0 ≤ i ∧ i ≤ xs.length ∧ xs.length < sizeLine ∧ Q .non (upd H l (.lst (insAt xs i.toNat y)))
theorem mt_insert : MtR X "list.insert" rInsert := by
  intro pins s σ H x vs v us Q I rx rv h
  obtain ⟨l, xs, i, y, rfl, rfl, hH, h0, h1, hz, q⟩ := h
  cases rx
  obtain ⟨u, w', rfl, ru, rw'⟩ := rv.two
  obtain ⟨t, rfl⟩ := ru
  obtain ⟨z, its, n, r, hl, e⟩ := I.lstM hH
  have hs : sizeLine = 16777216 := sizeLine_eq
  refine call_meets F.slot_list_insert ⟨_, e, rfl⟩ F.entry_list_insert (F.args_list_insert_3 _ _ _) (AutoListH.list_insert_list_int_val_1 l its.toArray n i t w' (by rw [fitsIndex_both (by omega) (by omega)]; exact Bool.false_ne_true) (by rw [List.size_toArray]; omega)) ⟨e, ?_⟩
  refine ⟨.non, _, I.lset (its' := insAt its i.toNat w') (t' := s.toks) hH e ?_ ?_ ?_, rfl, q⟩
  · have hi : ¬ i < 0 := by omega
    have hm : min i.toNat its.length = i.toNat := by omega
    simp only [hi, if_false, List.size_toArray, hm]
    unfold insAt
    apply Array.toList_inj.mp
    simp
    exact List.take_of_length_le (by rw [List.length_drop]; exact Nat.le_refl _)
  · exact Vals.append (r.take i.toNat) (.cons rw' (r.drop i.toNat))
  · unfold insAt
    rw [List.length_append, List.length_cons, List.length_take, List.length_drop]
    omega
end
end L2

namespace L2
open PySem PySem.Spec PyProof.Rows PySem.SeqAt

def iAny (K : PySem.W.Frag) (tl : TE) : TI := fun σ H R => tl σ H fun x H1 => ∃ a, x = .ref a ∧ (((∃ xs, SqL K H1 a xs) ∧ R (Itl K a) H1) ∨ ((∃ xs, SqT K H1 a xs) ∧ R (Itt K a) H1))
theorem pi_any {X : Cx} {tg l : Expr} {tl : TE} (hl : PE X l tl) : PI X tg l (iAny X.K tl) := by
  intro pins s σ H R I h
  refine thn (hl pins s σ H _ I h) fun v s1 ⟨x, H1, I1, r1, q1⟩ => ?_
  obtain ⟨a, e, q⟩ := q1
  subst e
  cases r1
  rcases q with ⟨⟨xs, hq⟩, q⟩ | ⟨⟨xs, hq⟩, q⟩
  · obtain ⟨its, rv, p, hz⟩ := I1.list hq
    refine wpAny_pyIter_list p.isList ?_
    refine ⟨s1.heap.objs.size, [s1.heap.objs.size], _, _, H1, rfl, I1.kept (t' := s1.toks) fun b o e => Heap.get?_push_of_some _ e, turn_list a _, ⟨_, Heap.get?_push_size _ rfl, rfl, rfl⟩, fun b hb => ?_, q⟩
    have e : b = s1.heap.objs.size := by simpa using hb
    subst e
    exact I1.fpOk (Nat.le_refl _) (I1.hok.fresh (Nat.le_refl _))
  · obtain ⟨its, rv, p, hz⟩ := I1.tuple hq
    refine wpAny_pyIter_tuple (show s1.heap.IsTuple a its.toArray from p) ?_
    refine ⟨s1.heap.objs.size, [s1.heap.objs.size], _, _, H1, rfl, I1.kept (t' := s1.toks) fun b o e => Heap.get?_push_of_some _ e, turn_tuple a _, ⟨_, Heap.get?_push_size _ rfl, rfl, rfl⟩, fun b hb => ?_, q⟩
    have e : b = s1.heap.objs.size := by simpa using hb
    subst e
    exact I1.fpOk (Nat.le_refl _) (I1.hok.fresh (Nat.le_refl _))

theorem st_for {wi : TI} {g : TG} {tb : TS} {D : Ends} {σ : St} {H : Hp} (h : wi σ H fun J H1 => ∃ W : Nat → Nat → St → Hp → Prop, (∃ m, W 0 m σ H1) ∧ ∀ i m σ H, W i m σ H →
  (J.stop i H ∧ D.nx σ H) ∨ (J.go i H ∧ ∃ N : St → Hp → Prop, (∀ σ' H', N σ' H' → ∃ m', m' < m ∧ W (i + 1) m' σ' H') ∧ ∀ x H', J.yld i H x H' → g x σ H' fun σ2 H2 => tb { D with nx := N, ct := N, bk := D.nx } σ2 H2)) : tFor wi g tb D σ H := h
/-- what a loop wants of an iterator -/
abbrev ForW (g : TG) (tb : TS) (D : Ends) (σ : St) (J : It) (H1 : Hp) : Prop := ∃ W : Nat → Nat → St → Hp → Prop, (∃ m, W 0 m σ H1) ∧ ∀ i m σ H, W i m σ H →
  (J.stop i H ∧ D.nx σ H) ∨ (J.go i H ∧ ∃ N : St → Hp → Prop, (∀ σ' H', N σ' H' → ∃ m', m' < m ∧ W (i + 1) m' σ' H') ∧ ∀ x H', J.yld i H x H' → g x σ H' fun σ2 H2 => tb { D with nx := N, ct := N, bk := D.nx } σ2 H2)
/-- a walk over the sequence at a -/
theorem any_for {K : PySem.W.Frag} {g : TG} {tb : TS} {D : Ends} {σ : St} {H : Hp} {a : Addr} {xs : List V} (hq : SqL K H a xs ∨ SqT K H a xs) (Pv : Nat → St → Hp → Prop) (h0 : Pv 0 σ H)
    (hl : SqL K H a xs → ∀ i σ H, i ≤ xs.length → Pv i σ H → SqL K H a xs) (ht : SqT K H a xs → ∀ i σ H, i ≤ xs.length → Pv i σ H → SqT K H a xs)
    (hs : ∀ i x σ H, xs[i]? = some x → Pv i σ H → g x σ H fun σ2 H2 => tb { D with nx := Pv (i + 1), ct := Pv (i + 1), bk := D.nx } σ2 H2) (hd : ∀ σ H, Pv xs.length σ H → D.nx σ H) :
    ∃ b, V.ref a = .ref b ∧ (((∃ xs, SqL K H b xs) ∧ ForW g tb D σ (Itl K b) H) ∨ ((∃ xs, SqT K H b xs) ∧ ForW g tb D σ (Itt K b) H)) := by
  refine ⟨a, rfl, ?_⟩
  rcases hq with hq | hq
  · exact .inl ⟨⟨xs, hq⟩, for_list Pv h0 (hl hq) hs hd⟩
  · exact .inr ⟨⟨xs, hq⟩, for_tup Pv h0 (ht hq) hs hd⟩
theorem rng1_for {g : TG} {tb : TS} {D : Ends} {σ : St} {H : Hp} {n : Int} (h0 : 0 ≤ n) (hn : n < 2 ^ 62) (Pv : Nat → St → Hp → Prop) (p0 : Pv 0 σ H)
    (hs : ∀ (i : Nat) σ H, (i : Int) < n → Pv i σ H → g (.int i) σ H fun σ2 H2 => tb { D with nx := Pv (i + 1), ct := Pv (i + 1), bk := D.nx } σ2 H2) (hd : ∀ σ H, Pv n.toNat σ H → D.nx σ H) :
    ∃ j : Int, [V.int n] = [.int j] ∧ -(2 ^ 62) ≤ j ∧ j < 2 ^ 62 ∧ ForW g tb D σ (Itr 0 j.toNat) H :=
  ⟨n, rfl, by omega, hn, for_range (lo := 0) (n := n.toNat) Pv p0 (fun i σ H hi p => by rw [Int.zero_add]; exact hs i σ H (by omega) p) hd⟩
theorem rng2_for {g : TG} {tb : TS} {D : Ends} {σ : St} {H : Hp} {lo hi : Int} (h1 : -(2 ^ 62) ≤ lo) (h2 : lo ≤ hi) (h3 : hi < 2 ^ 62) (Pv : Nat → St → Hp → Prop) (p0 : Pv 0 σ H)
    (hs : ∀ (i : Nat) σ H, lo + i < hi → Pv i σ H → g (.int (lo + i)) σ H fun σ2 H2 => tb { D with nx := Pv (i + 1), ct := Pv (i + 1), bk := D.nx } σ2 H2) (hd : ∀ σ H, Pv (hi - lo).toNat σ H → D.nx σ H) :
    ∃ i j : Int, [V.int lo, V.int hi] = [.int i, .int j] ∧ (-(2 ^ 62) ≤ i ∧ i < 2 ^ 62 ∧ -(2 ^ 62) ≤ j ∧ j < 2 ^ 62) ∧ ForW g tb D σ (Itr i (j - i).toNat) H :=
  ⟨lo, hi, rfl, ⟨h1, by omega, by omega, h3⟩, for_range (lo := lo) (n := (hi - lo).toNat) Pv p0 (fun i σ H hi p => hs i σ H (by omega) p) hd⟩

abbrev CompW (g : TG) (tt : TT) (te : TE) (σ' : St) (Q : VK) (J : It) (H1 : Hp) : Prop := ∃ W : Nat → Nat → List V → Hp → Prop, (∃ m, W 0 m [] H1) ∧ ∀ i m ys H, W i m ys H → ys.length ≤ sizeLine ∧
    ((J.stop i H ∧ ∀ p, H p = none → Q (.ref p) (upd H p (.lst ys))) ∨
     (J.go i H ∧ ∃ NN : List V → Hp → Prop, (∀ ys' H', NN ys' H' → ∃ m', m' < m ∧ W (i + 1) m' ys' H') ∧ ∀ x H', J.yld i H x H' → g x σ' H' fun σ2 H2 => tt σ2 H2 fun b H3 =>
        if b = true then te σ2 H3 fun y H4 => NN (ys ++ [y]) H4 else NN ys H3))
theorem st_comp {fr : List (Option Nat)} {wi : TI} {g : TG} {tt : TT} {te : TE} {σ : St} {H : Hp} {Q : VK} (h : wi σ H (CompW g tt te (grab fr σ) Q)) : tComp fr wi g tt te σ H Q := h
theorem comp_of {J : It} {n : Nat} {g : TG} {tt : TT} {te : TE} {σ' : St} {H : Hp} {Q : VK} (item : Nat → V → Prop) (Pv : Nat → List V → Hp → Prop) (h0 : Pv 0 [] H) (hlen : ∀ i ys H, i ≤ n → Pv i ys H → ys.length ≤ sizeLine)
    (hgo : ∀ i ys H, i < n → Pv i ys H → J.go i H) (hy : ∀ i ys H x H', i < n → Pv i ys H → J.yld i H x H' → H' = H ∧ item i x) (hst : ∀ ys H, Pv n ys H → J.stop n H)
    (hs : ∀ i x ys H, i < n → item i x → Pv i ys H → g x σ' H fun σ2 H2 => tt σ2 H2 fun b H3 => if b = true then te σ2 H3 fun y H4 => Pv (i + 1) (ys ++ [y]) H4 else Pv (i + 1) ys H3)
    (hd : ∀ ys H, Pv n ys H → ∀ p, H p = none → Q (.ref p) (upd H p (.lst ys))) : CompW g tt te σ' Q J H := by
  refine ⟨fun i m ys H => m = n - i ∧ i ≤ n ∧ Pv i ys H, ⟨n, by simp, Nat.zero_le _, h0⟩, ?_⟩
  rintro i m ys H ⟨rfl, hi, p⟩
  refine ⟨hlen i ys H hi p, ?_⟩
  by_cases hlt : i < n
  · refine .inr ⟨hgo i ys H hlt p, Pv (i + 1), fun ys' H' q => ⟨n - (i + 1), by omega, rfl, hlt, q⟩, fun x H' y => ?_⟩
    obtain ⟨rfl, hx⟩ := hy i ys H x H' hlt p y
    exact hs i x ys _ hlt hx p
  · have e : i = n := by omega
    subst e
    exact .inl ⟨hst ys H p, hd ys H p⟩
theorem any_compL {K : PySem.W.Frag} {g : TG} {tt : TT} {te : TE} {σ' : St} {H : Hp} {Q : VK} {a : Addr} {xs : List V} (hq : SqL K H a xs) (Pv : Nat → List V → Hp → Prop) (h0 : Pv 0 [] H) (hlen : ∀ i ys H, i ≤ xs.length → Pv i ys H → ys.length ≤ sizeLine)
    (hl : ∀ i ys H, i ≤ xs.length → Pv i ys H → SqL K H a xs)
    (hs : ∀ i x ys H, xs[i]? = some x → Pv i ys H → g x σ' H fun σ2 H2 => tt σ2 H2 fun b H3 => if b = true then te σ2 H3 fun y H4 => Pv (i + 1) (ys ++ [y]) H4 else Pv (i + 1) ys H3)
    (hd : ∀ ys H, Pv xs.length ys H → ∀ p, H p = none → Q (.ref p) (upd H p (.lst ys))) :
    ∃ b, V.ref a = .ref b ∧ (((∃ xs, SqL K H b xs) ∧ CompW g tt te σ' Q (Itl K b) H) ∨ ((∃ xs, SqT K H b xs) ∧ CompW g tt te σ' Q (Itt K b) H)) := by
  refine ⟨a, rfl, .inl ⟨⟨xs, hq⟩, comp_of (n := xs.length) (fun i x => xs[i]? = some x) Pv h0 hlen (fun i ys H hi p => ?_) (fun i ys H x H' hi p y => ?_) (fun ys H p => ?_) (fun i x ys H _ hx p => hs i x ys H hx p) hd⟩⟩
  · exact ⟨xs, xs[i], hl i ys H (Nat.le_of_lt hi) p, by simp [hi]⟩
  · exact ⟨y.1, y.2 xs (hl i ys H (Nat.le_of_lt hi) p)⟩
  · exact ⟨xs, hl _ ys H (Nat.le_refl _) p, Nat.le_refl _⟩
theorem any_forL {K : PySem.W.Frag} {g : TG} {tb : TS} {D : Ends} {σ : St} {H : Hp} {a : Addr} {xs : List V} (hq : SqL K H a xs) (Pv : Nat → St → Hp → Prop) (h0 : Pv 0 σ H)
    (hl : ∀ i σ H, i ≤ xs.length → Pv i σ H → SqL K H a xs)
    (hs : ∀ i x σ H, xs[i]? = some x → Pv i σ H → g x σ H fun σ2 H2 => tb { D with nx := Pv (i + 1), ct := Pv (i + 1), bk := D.nx } σ2 H2) (hd : ∀ σ H, Pv xs.length σ H → D.nx σ H) :
    ∃ b, V.ref a = .ref b ∧ (((∃ xs, SqL K H b xs) ∧ ForW g tb D σ (Itl K b) H) ∨ ((∃ xs, SqT K H b xs) ∧ ForW g tb D σ (Itt K b) H)) :=
  ⟨a, rfl, .inl ⟨⟨xs, hq⟩, for_list Pv h0 hl hs hd⟩⟩
theorem rng1_comp {g : TG} {tt : TT} {te : TE} {σ' : St} {H : Hp} {Q : VK} {n : Int} (h0 : 0 ≤ n) (hn : n < 2 ^ 62) (Pv : Nat → List V → Hp → Prop) (p0 : Pv 0 [] H) (hlen : ∀ (i : Nat) ys H, (i : Int) ≤ n → Pv i ys H → ys.length ≤ sizeLine)
    (hs : ∀ (i : Nat) ys H, (i : Int) < n → Pv i ys H → g (.int i) σ' H fun σ2 H2 => tt σ2 H2 fun b H3 => if b = true then te σ2 H3 fun y H4 => Pv (i + 1) (ys ++ [y]) H4 else Pv (i + 1) ys H3)
    (hd : ∀ ys H, Pv n.toNat ys H → ∀ p, H p = none → Q (.ref p) (upd H p (.lst ys))) :
    ∃ j : Int, [V.int n] = [.int j] ∧ -(2 ^ 62) ≤ j ∧ j < 2 ^ 62 ∧ CompW g tt te σ' Q (Itr 0 j.toNat) H :=
  ⟨n, rfl, by omega, hn, comp_of (n := n.toNat) (fun i x => x = .int i) Pv p0 (fun i ys H hi p => hlen i ys H (by omega) p) (fun i ys H hi _ => hi) (fun i ys H x H' hi _ y => ⟨y.1, by rw [y.2, Int.zero_add]⟩) (fun ys H _ => Nat.le_refl _)
    (fun i x ys H hi hx p => by subst hx; exact hs i ys H (by omega) p) hd⟩
theorem rng2_comp {g : TG} {tt : TT} {te : TE} {σ' : St} {H : Hp} {Q : VK} {lo hi : Int} (h1 : -(2 ^ 62) ≤ lo) (h2 : lo ≤ hi) (h3 : hi < 2 ^ 62) (Pv : Nat → List V → Hp → Prop) (p0 : Pv 0 [] H) (hlen : ∀ (i : Nat) ys H, lo + i ≤ hi → Pv i ys H → ys.length ≤ sizeLine)
    (hs : ∀ (i : Nat) ys H, lo + i < hi → Pv i ys H → g (.int (lo + i)) σ' H fun σ2 H2 => tt σ2 H2 fun b H3 => if b = true then te σ2 H3 fun y H4 => Pv (i + 1) (ys ++ [y]) H4 else Pv (i + 1) ys H3)
    (hd : ∀ ys H, Pv (hi - lo).toNat ys H → ∀ p, H p = none → Q (.ref p) (upd H p (.lst ys))) :
    ∃ i j : Int, [V.int lo, V.int hi] = [.int i, .int j] ∧ (-(2 ^ 62) ≤ i ∧ i < 2 ^ 62 ∧ -(2 ^ 62) ≤ j ∧ j < 2 ^ 62) ∧ CompW g tt te σ' Q (Itr i (j - i).toNat) H :=
  ⟨lo, hi, rfl, ⟨h1, by omega, by omega, h3⟩, comp_of (n := (hi - lo).toNat) (fun i x => x = .int (lo + i)) Pv p0 (fun i ys H hi' p => hlen i ys H (by omega) p) (fun i ys H hi' _ => hi') (fun i ys H x H' hi' _ y => y) (fun ys H _ => Nat.le_refl _)
    (fun i x ys H hi' hx p => by subst hx; exact hs i ys H (by omega) p) hd⟩

theorem But.sqL {K : PySem.W.Frag} {ps : List Addr} {H H' : Hp} {a : Addr} {xs : List V} (e : But ps H H') (n : a ∉ ps) (h : SqL K H a xs) : SqL K H' a xs := by
  rcases h with (h | ⟨o, h⟩) | h
  · exact .inl (.inl (e _ _ h n))
  · exact .inl (.inr ⟨o, e _ _ h n⟩)
  · exact .inr h
theorem But.new {ps : List Addr} {H H' : Hp} {p : Addr} (e : But ps H H') (h : H' p = none) (o : HO) : But ps H (L2.upd H' p o) := fun b u q n => by
  have := e b u q n
  rw [upd_ne (ne_of_none this h)]; exact this
section
variable {σ : St} {H : Hp} {Q : VK} {D : Ends}
theorem st_seq {t u : TS} (h : t { D with nx := u D } σ H) : tSeq t u D σ H := h
theorem st_next (h : D.nx σ H) : tNext D σ H := h
theorem st_asg {te : TE} {g : TG} (h : te σ H fun x H1 => g x σ H1 D.nx) : tAsg te g D σ H := h
theorem st_name {i : Nat} {v : V} {R : St → Hp → Prop} (h : R (σ.set i (some v)) H) : gName i v σ H R := h
theorem st_var {i : Nat} {v : V} (e : σ[i]? = some (some v)) (h : Q v H) : tVar i σ H Q := ⟨v, e, h⟩
theorem st_C {v : V} (h : Q v H) : tC v σ H Q := h
theorem st_op {r : R2} {ta tb : TE} (h : ta σ H fun x H1 => tb σ H1 fun y H2 => r x y H2 Q) : tOp r ta tb σ H Q := h
theorem st_un {r : V → Hp → VK → Prop} {ta : TE} (h : ta σ H fun x H1 => r x H1 Q) : tUn r ta σ H Q := h
theorem st_ret {te : TE} (h : te σ H D.rt) : tRet te D σ H := h
theorem st_retN (h : D.rt .non H) : tRetN D σ H := h
theorem st_drop {te : TE} (h : te σ H fun _ H1 => D.nx σ H1) : tDrop te D σ H := h
theorem st_if {c : TT} {t u : TS} (h : c σ H fun b H1 => if b = true then t D σ H1 else u D σ H1) : tIfS c t u D σ H := h
theorem st_ifE {c : TT} {ta tb : TE} (h : c σ H fun b H1 => if b = true then ta σ H1 Q else tb σ H1 Q) : tIf c ta tb σ H Q := h
theorem st_test {t : TE} {R : Bool → Hp → Prop} (h : t σ H fun x H' => ∃ k, x = .bl k ∧ R k H') : tTest t σ H R := h
theorem st_B {t : TE} {R : Bool → Hp → Prop} (h : t σ H fun x H' => ∃ k, x = .bl k ∧ R k H') : tB t σ H R := h
theorem st_bl {b : Bool} {R : Bool → Prop} (h : R b) : ∃ k, V.bl b = .bl k ∧ R k := ⟨b, rfl, h⟩
theorem st_and {t u : TT} {R : Bool → Hp → Prop} (h : t σ H fun c H1 => if c = true then u σ H1 R else R false H1) : tAnd t u σ H R := h
theorem st_or {t u : TT} {R : Bool → Hp → Prop} (h : t σ H fun c H1 => if c = true then R true H1 else u σ H1 R) : tOr t u σ H R := h
theorem st_not {t : TT} {R : Bool → Hp → Prop} (h : t σ H fun c H1 => R (!c) H1) : tNot t σ H R := h
theorem st_andV {ta tb : TE} (h : ta σ H fun x H1 => ∃ c, x = .bl c ∧ if c = true then tb σ H1 Q else Q (.bl false) H1) : tAndV ta tb σ H Q := h
theorem st_orV {ta tb : TE} (h : ta σ H fun x H1 => ∃ c, x = .bl c ∧ if c = true then Q (.bl true) H1 else tb σ H1 Q) : tOrV ta tb σ H Q := h
theorem st_notV {ta : TE} (h : ta σ H fun x H1 => ∃ c, x = .bl c ∧ Q (.bl (!c)) H1) : tNotV ta σ H Q := h
theorem st_nil {R : List V → Hp → Prop} (h : R [] H) : tNil σ H R := h
theorem st_cons {ta : TE} {tr : TA} {R : List V → Hp → Prop} (h : ta σ H fun x H1 => tr σ H1 fun xs H2 => R (x :: xs) H2) : tCons ta tr σ H R := h
theorem st_tup {t : TA} (h : t σ H fun xs H1 => xs.length ≤ sizeLine ∧ ∀ p, H1 p = none → Q (.ref p) (upd H1 p (.tup xs))) : tTup t σ H Q := h
theorem st_lst {t : TA} (h : t σ H fun xs H1 => xs.length ≤ sizeLine ∧ ∀ p, H1 p = none → Q (.ref p) (upd H1 p (.lst xs))) : tLst t σ H Q := h
theorem st_call {sp : Sp} {dvs : List V} {E : XK} {t : TA} (h : t σ H fun vs H1 => sp (vs ++ dvs) H1 Q E) : tCall sp dvs E t σ H Q := h
theorem st_CB {r : List V → Hp → VK → Prop} {t : TA} (h : t σ H fun vs H1 => r vs H1 Q) : tCB r t σ H Q := h
theorem st_tt {R : Bool → Hp → Prop} (h : R true H) : tTT σ H R := h
theorem st_break (h : D.bk σ H) : tBreak D σ H := h
theorem st_cont (h : D.ct σ H) : tCont D σ H := h
theorem st_any {K : PySem.W.Frag} {tl : TE} {R : It → Hp → Prop} (h : tl σ H fun x H1 => ∃ a, x = .ref a ∧ (((∃ xs, SqL K H1 a xs) ∧ R (Itl K a) H1) ∨ ((∃ xs, SqT K H1 a xs) ∧ R (Itt K a) H1))) : iAny K tl σ H R := h
theorem st_rng1 {ta : TA} {R : It → Hp → Prop} (h : ta σ H fun vs H1 => ∃ j : Int, vs = [.int j] ∧ -(2 ^ 62) ≤ j ∧ j < 2 ^ 62 ∧ R (Itr 0 j.toNat) H1) : iRng1 ta σ H R := h
theorem st_rng2 {ta : TA} {R : It → Hp → Prop} (h : ta σ H fun vs H1 => ∃ i j : Int, vs = [.int i, .int j] ∧ (-(2 ^ 62) ≤ i ∧ i < 2 ^ 62 ∧ -(2 ^ 62) ≤ j ∧ j < 2 ^ 62) ∧ R (Itr i (j - i).toNat) H1) : iRng2 ta σ H R := h
theorem st_sub {to ti : TE} {t : TSet} {v : V} {R : St → Hp → Prop} (h : to σ H fun o H1 => ti σ H1 fun i H2 => t o i v H2 fun H3 => R σ H3) : gSub to ti t v σ H R := h
theorem st_bm {K : PySem.W.Frag} {T : String} {r : V → List V → Hp → VK → Prop} {to : TE} {t : TA} (h : to σ H fun x H1 => tyV K T x H1 ∧ t σ H1 fun xs H2 => r x xs H2 Q) : tBM K T r to t σ H Q := h
theorem st_chain {r r' : R2} {ta tb tc : TE} (h : ta σ H fun x H1 => tb σ H1 fun y H2 => r x y H2 fun z H3 => ∃ k, z = .bl k ∧ (if k = true then tc σ H3 fun w' H4 => r' y w' H4 Q else Q (.bl false) H3)) : tChain r r' ta tb tc σ H Q := h
end
section
variable {H : Hp} {Q : VK} {K : PySem.W.Frag}
theorem v_addI {i j : Int} (h : Q (.int (i + j)) H) : rAddA K (.int i) (.int j) H Q := .inl ⟨i, j, rfl, rfl, h⟩
theorem v_cat {a b : Addr} {xs ys : List V} (h1 : H a = some (.lst xs)) (h2 : H b = some (.lst ys)) (hz : xs.length + ys.length ≤ sizeLine) (h : ∀ p, H p = none → Q (.ref p) (upd H p (.lst (xs ++ ys)))) : rAddA K (.ref a) (.ref b) H Q := .inr (.inr (.inl ⟨a, b, xs, ys, rfl, rfl, h1, h2, hz, h⟩))
theorem v_subI {i j : Int} (h : Q (.int (i - j)) H) : rI0 (fun i j => .int (i - j)) (.int i) (.int j) H Q := ⟨i, j, rfl, rfl, h⟩
theorem v_mulI {i j : Int} (c : CMul i j) (h : Q (.int (i * j)) H) : rMulA (.int i) (.int j) H Q := .inl ⟨i, j, rfl, rfl, c, h⟩
theorem v_mulS {z : Str} {n : Int} (h0 : 0 ≤ n) (h1 : n ≤ 1000) (h2 : z.length ≤ 1000) (h : Q (.str (PySem.Txt.mul z n)) H) : rMulA (.str z) (.int n) H Q := .inr (.inl ⟨z, n, rfl, rfl, h0, h1, h2, h⟩)
theorem v_fdiv {i j : Int} (c : CDiv i j) (h : Q (.int (i / j)) H) : rI CDiv (fun i j => .int (i / j)) (.int i) (.int j) H Q := ⟨i, j, rfl, rfl, c, h⟩
theorem v_mod {i j : Int} (c : 0 < j) (h : Q (.int (i % j)) H) : rI (fun _ j => 0 < j) (fun i j => .int (i % j)) (.int i) (.int j) H Q := ⟨i, j, rfl, rfl, c, h⟩
theorem v_ltI {i j : Int} (h : Q (.bl (decide (i < j))) H) : rLtA (.int i) (.int j) H Q := .inl ⟨i, j, rfl, rfl, h⟩
theorem v_leI {i j : Int} (h : Q (.bl (decide (i ≤ j))) H) : rLeA (.int i) (.int j) H Q := .inl ⟨i, j, rfl, rfl, h⟩
theorem v_gtI {i j : Int} (h : Q (.bl (decide (j < i))) H) : rGtA (.int i) (.int j) H Q := .inl ⟨i, j, rfl, rfl, h⟩
theorem v_geI {i j : Int} (h : Q (.bl (decide (j ≤ i))) H) : rGeA (.int i) (.int j) H Q := .inl ⟨i, j, rfl, rfl, h⟩
theorem v_eq {x y : V} (c : scal x y = true) (h : Q (.bl (decide (x = y))) H) : rEqA K x y H Q := .inl ⟨c, h⟩
theorem v_ne {x y : V} (c : scal x y = true) (h : Q (.bl (!decide (x = y))) H) : rNeA K x y H Q := .inl ⟨c, h⟩
theorem v_eqD {x y : V} {d e : PyData} (h1 : Dv K H d x) (h2 : Dv K H e y) (hz : d.depth ≤ 64) (h : Q (.bl (PyData.eqv d e)) H) : rEqA K x y H Q := .inr ⟨d, e, h1, h2, hz, h⟩
theorem v_neD {x y : V} {d e : PyData} (h1 : Dv K H d x) (h2 : Dv K H e y) (hz : d.depth ≤ 64) (h : Q (.bl (!PyData.eqv d e)) H) : rNeA K x y H Q := .inr ⟨d, e, h1, h2, hz, h⟩
theorem v_is {x : V} (h : Q (.bl (decide (x = .non))) H) : rIsA x .non H Q := ⟨rfl, h⟩
theorem v_isnot {x : V} (h : Q (.bl (!decide (x = .non))) H) : rIsNotA x .non H Q := ⟨rfl, h⟩
theorem v_ixL {p : Addr} {xs : List V} {i : Int} {v : V} (h1 : SqL K H p xs) (e : atI xs i = some v) (h : Q v H) : rIx K (.ref p) (.int i) H Q := .inl ⟨p, xs, i, v, rfl, rfl, h1, e, h⟩
theorem v_ixT {p : Addr} {xs : List V} {i : Int} {v : V} (h1 : SqT K H p xs) (e : atI xs i = some v) (h : Q v H) : rIx K (.ref p) (.int i) H Q := .inr (.inl ⟨p, xs, i, v, rfl, rfl, h1, e, h⟩)
theorem v_ixS {z : Str} {i : Int} {c : Nat} (hz : z.length ≤ sizeLine) (e : atI z.cps.toList i = some c) (h : Q (.str ⟨#[c]⟩) H) : rIx K (.str z) (.int i) H Q := .inr (.inr ⟨z, i, c, rfl, rfl, hz, e, h⟩)
theorem v_in {x : V} {p : Addr} {xs : List V} (h1 : SqL K H p xs ∨ SqT K H p xs) (fx : flatV x = true) (fs : xs.all flatV = true) (h : Q (.bl (inV x xs)) H) : rInA K false x (.ref p) H Q := .inl ⟨p, xs, rfl, h1, fx, fs, h⟩
theorem v_notin {x : V} {p : Addr} {xs : List V} (h1 : SqL K H p xs ∨ SqT K H p xs) (fx : flatV x = true) (fs : xs.all flatV = true) (h : Q (.bl (!inV x xs)) H) : rInA K true x (.ref p) H Q := .inl ⟨p, xs, rfl, h1, fx, fs, h⟩
theorem v_lenQ {p : Addr} {xs : List V} (h1 : SqL K H p xs ∨ SqT K H p xs) (h : Q (.int xs.length) H) : rLenA K [.ref p] H Q := .inl ⟨p, xs, rfl, h1, h⟩
theorem v_setL {p : Addr} {xs : List V} {k : Int} {v : V} {j : Nat} {R : Hp → Prop} (h1 : H p = some (.lst xs)) (e : ixN xs.length k = some j) (h : R (upd H p (.lst (xs.set j v)))) : rSetL (.ref p) (.int k) v H R := ⟨p, xs, k, j, rfl, rfl, h1, e, h⟩
theorem v_append {p : Addr} {xs : List V} {y : V} (h1 : H p = some (.lst xs)) (hz : xs.length < sizeLine) (h : Q .non (upd H p (.lst (xs ++ [y])))) : rAppend (.ref p) [y] H Q := ⟨p, xs, y, rfl, rfl, h1, hz, h⟩
theorem v_insert {p : Addr} {xs : List V} {i : Int} {y : V} (h1 : H p = some (.lst xs)) (h0 : 0 ≤ i) (hi : i ≤ xs.length) (hz : xs.length < sizeLine) (h : Q .non (upd H p (.lst (insAt xs i.toNat y)))) : rInsert (.ref p) [.int i, y] H Q := ⟨p, xs, i, y, rfl, rfl, h1, h0, hi, hz, h⟩
end
end L2

namespace L2
open PySem PySem.Spec PyProof.Rows PySem.SeqAt

section
variable {prog : Program} {w : World} {A : Around} {E : Value → Shared → Prop} {s : Shared}
end

/-- n - 1, n - 2, .. 0 -/
def Itv (n : Nat) : It := ⟨fun i _ => i < n, fun i H x H' => H' = H ∧ x = .int ((n : Int) - 1 - i), fun i _ => n ≤ i⟩
theorem turn_rev {P : Program} {w : World} {K : PySem.W.Frag} {tg : Expr} (it : Addr) (n : Nat) : Turn P w K tg (Itv n) [it] it (fun i h => IsRangeIter h it ((n : Int) - 1 + (i : Nat) * (-1)) ((n : Int) - (i : Nat)) (-1)) where
  mem := by simp
  obj := fun i h st b hb => by
    have e : b = it := by simpa using hb
    subst e
    exact ⟨_, st, fun v z => by
      have z' : Data.fields _ = Data.cell v := z
      cases z'⟩
  keep := fun i h h' st k => k it (by simp) _ st
  item := by
    intro X hP hw hK hc i pins s σ H E I hf st hg
    subst hP hw hK
    obtain ⟨f0, f1, f2, f3, f4, f5⟩ := hf it (by simp)
    have W := Walks.range (prog := X.prog) (w := X.w) (I.ok.hd hc) it ((n : Int) - 1) (-1) n
    refine wpAny_with_toks (n := 1) I.tk (W.item i s _ _ hg st fun v h' tk hv st' kk ht => ?_)
    have ht : 0 < tk := ht
    obtain ⟨t, rfl⟩ := hv
    have I1 : Inv X pins σ H { s with heap := h', toks := tk } := I.turned (fun b o hb e => kk b o (by simpa using hb) e) f0 f1 f3 f4 f5
    refine ⟨_, rfl, go_of (s := { s with heap := h', toks := tk }) (n := "range_iterator") st' rfl rfl (by decide) ⟨.int ((n : Int) - 1 - i), H, I1, ⟨t, ?_⟩, ⟨rfl, rfl⟩, st', fun b hb => (hf b hb).1⟩⟩
    have e : (n : Int) - 1 + (i : Int) * (-1) = (n : Int) - 1 - i := by omega
    rw [e]
  done := by
    intro X hP hw hK hc i pins s σ H E I hf st hg
    subst hP hw hK
    obtain ⟨f0, f1, f2, f3, f4, f5⟩ := hf it (by simp)
    exact wpAny_pyNext_range_end (I.ok.hd hc) st (by have : n ≤ i := hg; omega) fun h' eb => ⟨rfl, I.turned (t' := s.toks) (fun b o hb e => eb b o hb e) f0 f1 f3 f4 f5⟩
  self := fun _ _ _ _ _ st h => wpAny_pyIter_rangeiter st h
def iRevRng (ta : TA) : TI := fun σ H R => ta σ H fun vs H1 => ∃ n : Nat, vs = [.int n] ∧ (n : Int) < 2 ^ 62 ∧ R (Itv n) H1
theorem st_rev {σ : St} {H : Hp} {ta : TA} {R : It → Hp → Prop} (h : ta σ H fun vs H1 => ∃ n : Nat, vs = [.int n] ∧ (n : Int) < 2 ^ 62 ∧ R (Itv n) H1) : iRevRng ta σ H R := h
theorem rev_for {g : TG} {tb : TS} {D : Ends} {σ : St} {H : Hp} {n : Nat} (hn : (n : Int) < 2 ^ 62) (Pv : Nat → St → Hp → Prop) (p0 : Pv 0 σ H)
    (hs : ∀ (i : Nat) σ H, i < n → Pv i σ H → g (.int ((n : Int) - 1 - i)) σ H fun σ2 H2 => tb { D with nx := Pv (i + 1), ct := Pv (i + 1), bk := D.nx } σ2 H2) (hd : ∀ σ H, Pv n σ H → D.nx σ H) :
    ∃ m : Nat, [V.int n] = [.int m] ∧ (m : Int) < 2 ^ 62 ∧ ForW g tb D σ (Itv m) H := by
  refine ⟨n, rfl, hn, fun i m σ H => m = n - i ∧ i ≤ n ∧ Pv i σ H, ⟨n, by simp, Nat.zero_le _, p0⟩, ?_⟩
  rintro i m σ H ⟨rfl, hi, p⟩
  by_cases hlt : i < n
  · refine .inr ⟨hlt, Pv (i + 1), fun σ' H' p' => ⟨n - (i + 1), by omega, rfl, hlt, p'⟩, fun x H' y => ?_⟩
    obtain ⟨e, y⟩ := y
    subst e y
    exact hs i σ _ hlt p
  · have e : i = n := by omega
    subst e
    exact .inl ⟨Nat.le_refl _, hd σ H p⟩

section
variable {X : Cx}
def rSetA : TSet := fun o i v H Q => rSetL o i v H Q ∨ ∃ a H', o = .ref a ∧ DPut H a i v H' ∧ Q H'
theorem set_any' (hu : X.A.units + 1 < cLine) : PSet X rSetA := by
  intro pins s σ H o i v ov iv u Q I ro ri rv h
  rcases h with h | ⟨a, H', rfl, g, q⟩
  · exact set_list pins s σ H o i v ov iv u Q I ro ri rv h
  · cases ro
    exact d_setItem hu I g ri rv fun s' I' => ⟨H', I', q⟩
def rIxA (K : PySem.W.Frag) : R2 := rIx K
theorem ix_any' (hu : X.A.units + 1 < cLine) : IxR X (rIxA X.K) := ix_seq
def rInD (neg : Bool) : R2 := fun x y H Q => ∃ a o, y = .ref a ∧ DGet H a x o ∧ Q (.bl (if neg then !o.isSome else o.isSome)) H
def rInB (K : PySem.W.Frag) (neg : Bool) : R2 := fun x y H Q => rInA K neg x y H Q ∨ rInD neg x y H Q
theorem op_inB (hu : X.A.units + 1 < cLine) : OpR X (compareOp .In) (rInB X.K false) := by
  refine op_inA.or ?_
  intro pins s σ H x y v u Q I rx ry h
  obtain ⟨a, o, rfl, g, q⟩ := h
  cases ry
  exact d_in hu I g rx fun s' I' => ⟨.bl o.isSome, H, I', rfl, q⟩
theorem op_notinB (hu : X.A.units + 1 < cLine) : OpR X (compareOp .NotIn) (rInB X.K true) := by
  refine op_notinA.or ?_
  intro pins s σ H x y v u Q I rx ry h
  obtain ⟨a, o, rfl, g, q⟩ := h
  cases ry
  exact d_notIn hu I g rx fun s' I' => ⟨.bl (!o.isSome), H, I', rfl, q⟩
theorem m1 {o e : Expr} {m : Str} {apos cpos : Pos} (base : attributeBase o m X.env (eval o X.env) = eval o X.env := by rfl)
    (few : ((backTo cpos (starEach [e] X.env)).all (fun x => !x.1) && (backToKw cpos (keywordEach [] X.env)).all (fun x => x.1.isSome)
    && decide (([e] : List Expr).length + ([] : List Keyword).length + (if ([] : List Keyword).isEmpty then 0 else 1) < 30)) = true := by rfl) (line : (apos.endLine == cpos.line) = true := by rfl) (trees : backTo cpos (starEach [e] X.env) = [(false, eval e X.env)] := by rfl) : M1 X o m apos e cpos := ⟨base, few, line, trees⟩
def rIsi (K : PySem.W.Frag) : List V → Hp → VK → Prop := fun xs H Q => (∃ (x : V) (T : String) (t : Value) (b : Bool), xs = [x, .ty T] ∧ TyOf K H x t ∧ PySem.W.kitOne K t (.type T) = some b ∧ Q (.bl b) H) ∨
  ∃ (a : Addr) (ys : List V) (T : String) (b : Bool), xs = [.ref a, .ty T] ∧ SqT K H a ys ∧ PySem.W.kitOne K (.type "tuple") (.type T) = some b ∧ Q (.bl b) H
theorem call_isinstanceA : CallR X (.builtin "isinstance") (rIsi X.K) := by
  intro pins s σ H xs us Q I r h
  rcases h with ⟨x, T, t, b, rfl, ty, e, q⟩ | ⟨a, ys, T, b, rfl, hq, e, q⟩
  · obtain ⟨u, w', rfl, r1, r2⟩ := vals2 r
    cases r2
    exact wpAny_with_toks (n := 1) I.tk (isinst_ok I r1 ty e fun tk ht => ⟨.bl b, H, I.tok _ ht, rfl, q⟩)
  · obtain ⟨u, w', rfl, r1, r2⟩ := vals2 r
    cases r2
    cases r1
    obtain ⟨its, rv, pl, hz⟩ := I.tuple hq
    obtain ⟨o, h1, h2, _⟩ := pl
    exact wpAny_with_toks (n := 1) I.tk (PySem.W.kia_one PySem.W.kitx_tuple I.kIn ⟨o, h1, h2⟩ e (fun z => nomatch z) fun tk ht => ⟨.bl b, H, I.tok _ ht, rfl, q⟩)
theorem v_isiT {K : PySem.W.Frag} {H : Hp} {Q : VK} {a : Addr} {ys : List V} {T : String} {b : Bool} (hq : SqT K H a ys) (e : PySem.W.kitOne K (.type "tuple") (.type T) = some b) (h : Q (.bl b) H) : rIsi K [.ref a, .ty T] H Q := .inr ⟨a, ys, T, b, rfl, hq, e, h⟩
example (K : PySem.W.Frag) : PySem.W.kitOne K (.type "str") (.type "str") = some true := by rfl
example (K : PySem.W.Frag) : PySem.W.kitOne K (.type "bool") (.type "int") = some true := by rfl
example (K : PySem.W.Frag) : PySem.W.kitOne K (.type "int") (.type "bool") = some false := by rfl
example (K : PySem.W.Frag) : PySem.W.kitOne K (.type "list") (.type "list") = some true := by rfl
end
end L2

namespace L2
open PySem PySem.Spec PyProof.Rows PySem.SeqAt

section
variable {X : Cx} {pins : List (Addr × Obj)} {σ : List (Option V)} {H : Hp} {s : Shared} {h' : Heap}
theorem Inv.turnLaid {a : Addr} {o : HO} {t' : Nat} {ch : List Addr} (I : Inv X pins σ H s) (hf : ∀ b ∈ ch, FpOk X pins H b)
    (k : ∀ b u, b ∉ ch → s.heap.get? b = some u → h'.get? b = some u) (hp : s.heap.objs.size ≤ a) (new : ObjOk X.prog X.w (upd H a o) h' a o) (ht : 0 < t') :
    Inv X pins σ (upd H a o) { s with heap := h', toks := t' } := by
  have hn : H a = none := I.hok.fresh hp
  have nit : ∀ b u, H b = some u → b ∉ ch := fun b u e z => by rw [(hf b z).1] at e; cases e
  have up : ∀ {b : Addr} {u : HO}, H b = some u → upd H a o b = some u := fun {b u} e => by rw [upd_ne (ne_of_none e hn)]; exact e
  have neA : ∀ b u, s.heap.get? b = some u → b ≠ a := fun b u e => Nat.ne_of_lt (Nat.lt_of_lt_of_le (Heap.lt_size e) hp)
  refine I.step (g' := s.gens) (d' := s.drawn) (ch := ch) (fun b hb => ?_) (fun b u _ _ hc e _ => k b u hc e) (fun b u _ _ hc e _ => ⟨u.slots, k b u hc e⟩) (fun b u _ e n => by rw [upd_ne (neA b u e)]; exact n)
    (fun b u hc e => ⟨u, k b u hc e⟩) (fun _ _ e => up e) (fun _ _ _ e => up e) (fun b ps e => ⟨#[], by rw [up e]; simp⟩) (fun m hm => ?_) (fun b u e => ?_) I.bare ht
  · obtain ⟨f0, f1, f2, f3, f4, f5⟩ := hf b hb
    exact ⟨f3, f1, f4, f5⟩
  · obtain ⟨ob, es, ep, ho, r⟩ := hm
    exact ⟨ob, es, ep, k _ ob (fun z => (hf _ z).2.1 rfl) ho, r⟩
  · by_cases hb : b = a
    · subst hb; rw [upd_same] at e; cases e; exact new
    · rw [upd_ne hb] at e
      refine (I.hok b u e).stay (fun c v hc q => k c v ?_ q) (fun _ q => up q) fun _ _ q => up q
      rcases hc with z | z
      · rw [z]; exact nit b u e
      · exact nit c _ z
end

/-- n items, each known by its place -/
def Itx (n : Nat) (V' : Nat → V → Prop) : It := ⟨fun i _ => i < n, fun i H x H' => H' = H ∧ V' i x, fun i _ => n ≤ i⟩
theorem turn_walks {P : Program} {w : World} {K : PySem.W.Frag} {tg : Expr} {it : Addr} {n : Nat} {Pv : Nat → Value → Prop} {St : Nat → Heap → Prop} {V' : Nat → V → Prop} {T : String} {vs : Nat → Array Value}
    (W : ∀ A : Around, A.handled = none → Walks P w A it [it] [it] n Pv St) (hV : ∀ i v, Pv i v → ∃ x, RelV x v ∧ V' i x)
    (hO : ∀ i h, St i h → ∃ o, h.get? it = some o ∧ o.cls = .type T ∧ o.data = .fields (vs i))
    (hT : ["enumerate", "zip", "dict_itemiterator", "dict_reverseitemiterator", "odict_iterator", "itertools.zip_longest", "itertools.pairwise"].contains T = false)
    (hS : ∀ (A : Around) (i : Nat) (s : Shared) (Q : Value → Shared → Prop) (E : Value → Shared → Prop), St i s.heap → Q (.ref it) s → wpAny (model P w) A (pyIter (.ref it)) Q E s) :
    Turn P w K tg (Itx n V') [it] it (fun i h => i ≤ n ∧ St i h) where
  mem := by simp
  obj := fun i h st b hb => by
    have e : b = it := by simpa using hb
    subst e
    obtain ⟨o, e, _, d⟩ := hO i h st.2
    exact ⟨o, e, fun v z => by rw [d] at z; cases z⟩
  keep := fun i h h' st k => ⟨st.1, (W {} rfl).frame i h h' st.2 k⟩
  item := by
    intro X hP hw hK hc i pins s σ H E I hf st hg
    subst hP hw hK
    obtain ⟨f0, f1, f2, f3, f4, f5⟩ := hf it (by simp)
    refine wpAny_with_toks (n := 1) I.tk ((W X.A (I.ok.hd hc)).item i s _ _ hg st.2 fun v h' tk hv st' kk ht => ?_)
    have ht : 0 < tk := ht
    obtain ⟨x, rx, vx⟩ := hV i v hv
    have I1 : Inv X pins σ H { s with heap := h', toks := tk } := I.turned (fun b o hb e => kk b o (by simpa using hb) e) f0 f1 f3 f4 f5
    obtain ⟨o, e, c, d⟩ := hO _ _ st'
    exact ⟨v, rfl, go_of (s := { s with heap := h', toks := tk }) e c d hT ⟨x, H, I1, rx, ⟨rfl, vx⟩, ⟨hg, st'⟩, fun b hb => (hf b hb).1⟩⟩
  done := by
    intro X hP hw hK hc i pins s σ H E I hf st hg
    subst hP hw hK
    obtain ⟨f0, f1, f2, f3, f4, f5⟩ := hf it (by simp)
    have hi : i = n := Nat.le_antisymm st.1 hg
    subst hi
    exact wpAny_with_toks (n := 1) I.tk ((W X.A (I.ok.hd hc)).done s _ _ st.2 fun h' tk eb ht => ⟨rfl, I.turned (fun b o hb e => eb b o (by simpa using hb) e) f0 f1 f3 f4 f5 ht⟩)
  self := fun A i s Q E st h => hS A i s Q E st.2 h

section
variable {X : Cx} {pins : List (Addr × Obj)} {σ : List (Option V)} {H : Hp} {s : Shared} {h' : Heap}
theorem Inv.turnedL {t' : Nat} {ch : List Addr} (I : Inv X pins σ H s) (hf : ∀ b ∈ ch, FpOk X pins H b) (k : ∀ b u, b ∉ ch → s.heap.get? b = some u → h'.get? b = some u) (ht : 0 < t') :
    Inv X pins σ H { s with heap := h', toks := t' } := by
  have nit : ∀ b u, H b = some u → b ∉ ch := fun b u e z => by rw [(hf b z).1] at e; cases e
  refine I.step (g' := s.gens) (d' := s.drawn) (ch := ch) (fun b hb => ?_) (fun b u _ _ hc e _ => k b u hc e) (fun b u _ _ hc e _ => ⟨u.slots, k b u hc e⟩) (fun _ _ _ _ n => n)
    (fun b u hc e => ⟨u, k b u hc e⟩) (fun _ _ e => e) (fun _ _ _ e => e) (fun b ps e => ⟨#[], by rw [e]; simp⟩) (fun m hm => ?_) (fun b u e => ?_) I.bare ht
  · obtain ⟨f0, f1, f2, f3, f4, f5⟩ := hf b hb
    exact ⟨f3, f1, f4, f5⟩
  · obtain ⟨ob, es, ep, ho, r⟩ := hm
    exact ⟨ob, es, ep, k _ ob (fun z => (hf _ z).2.1 rfl) ho, r⟩
  · refine (I.hok b u e).stay (fun c v hc q => k c v ?_ q) (fun _ q => q) fun _ _ q => q
    rcases hc with z | z
    · rw [z]; exact nit b u e
    · exact nit c _ z
end

/-- n items, each a new tuple -/
def Itp (n : Nat) (V' : Nat → List V → Prop) : It := ⟨fun i _ => i < n, fun i H x H' => ∃ p xs, x = .ref p ∧ H p = none ∧ V' i xs ∧ H' = upd H p (.tup xs), fun i _ => n ≤ i⟩
theorem walks_str {P : Program} {w : World} {A : Around} (hh : A.handled = none) (it : Addr) (x : Str) (t : Tok) : Walks P w A it [it] [it] x.cps.size (SignAt x) (fun i h => h.IsStrIter it (strIterType x) x t i) := by
  unfold strIterType
  split
  · exact Walks.strAscii hh it x t
  · exact Walks.strWide hh it x t
theorem pyIter_strI {P : Program} {w : World} {A : Around} {E : Value → Shared → Prop} {s : Shared} {it : Addr} {x : Str} {t : Tok} {i : Nat} {Q : Value → Shared → Prop} (hit : s.heap.IsStrIter it (strIterType x) x t i) (h : Q (.ref it) s) :
    wpAny (model P w) A (pyIter (.ref it)) Q E s := by
  unfold strIterType at hit
  split at hit
  · exact wpAny_pyIter_striter_ascii hit h
  · exact wpAny_pyIter_striter_wide hit h
def signV (z : Str) (i : Nat) (x : V) : Prop := ∃ c, z.cps.toList[i]? = some c ∧ x = .str ⟨#[c]⟩
theorem signAt_V {z : Str} (i : Nat) (v : Value) (h : SignAt z i v) : ∃ x, RelV x v ∧ signV z i x := by
  obtain ⟨c, u, e, rfl⟩ := h
  exact ⟨.str ⟨#[c]⟩, ⟨u, rfl⟩, c, by simpa using e, rfl⟩
theorem turn_str {P : Program} {w : World} {K : PySem.W.Frag} {tg : Expr} (it : Addr) (z : Str) (t : Tok) : Turn P w K tg (Itx z.cps.size (signV z)) [it] it (fun i h => i ≤ z.cps.size ∧ h.IsStrIter it (strIterType z) z t i) := by
  refine turn_walks (T := strIterType z) (vs := fun i => #[.str z t, .int i 0]) (fun A hA => walks_str hA it z t) signAt_V (fun i h st => ?_) ?_ (fun A i s Q E st h => pyIter_strI st h)
  · obtain ⟨o, e, c, d⟩ := st
    exact ⟨o, e, c, d⟩
  · unfold strIterType
    split <;> decide
/-- for x in e, e a text -/
def iStr (tl : TE) : TI := fun σ H R => tl σ H fun x H1 => ∃ z, x = .str z ∧ R (Itx z.cps.size (signV z)) H1
theorem pi_strs {X : Cx} {tg l : Expr} {tl : TE} (hl : PE X l tl) : PI X tg l (iStr tl) := by
  intro pins s σ H R I h
  refine thn (hl pins s σ H _ I h) fun v s1 ⟨x, H1, I1, r1, q1⟩ => ?_
  obtain ⟨z, e, q⟩ := q1
  subst e
  obtain ⟨t, rfl⟩ := r1
  refine wpAny_pyIter_strU ?_
  refine ⟨s1.heap.objs.size, [s1.heap.objs.size], _, _, H1, rfl, I1.kept (t' := s1.toks) fun b o e => Heap.get?_push_of_some _ e, turn_str _ z t, ⟨Nat.zero_le _, _, Heap.get?_push_size _ rfl, rfl, rfl⟩, fun b hb => ?_, q⟩
  have e : b = s1.heap.objs.size := by simpa using hb
  subst e
  exact I1.fpOk (Nat.le_refl _) (I1.hok.fresh (Nat.le_refl _))
/-- enumerate(e), e a text -/
def iEnumS (ta : TA) : TI := fun σ H R => ta σ H fun vs H1 => ∃ z, vs = [.str z] ∧ R (Itp z.cps.size fun i xs => ∃ c, z.cps.toList[i]? = some c ∧ xs = [.int i, .str ⟨#[c]⟩]) H1
def tRepl (te : TE) (y z : Str) : TE := fun σ H Q => te σ H fun x H1 => ∃ a, x = .str a ∧ a.length ≤ 1048576 ∧ Q (.str (PySem.Txt.replace a y z)) H1
def cutS (x : Str) (lo hi : Option Int) : Str := ⟨((x.cps.toList.drop (HT.sIx x.cps.toList.length 0 lo)).take (HT.sIx x.cps.toList.length x.cps.toList.length hi - HT.sIx x.cps.toList.length 0 lo)).toArray⟩
def rSlS : V → Option Int → Option Int → Hp → VK → Prop := fun x lo hi H Q => ∃ z, x = .str z ∧ z.length ≤ sizeLine ∧ Q (.str (cutS z lo hi)) H
theorem pick_cutS (x : Str) (lo hi : Option Int) : (⟨((Builtin.Str.strSliceIndices lo hi 1 x.length).filterMap (x.cps[·]?)).toArray⟩ : Str) = cutS x lo hi := by
  obtain ⟨h1, h2, h3⟩ := slice_bounds lo hi x.length
  have e : Builtin.Str.strSliceIndices lo hi 1 x.length = sliceRange (sliceBounds lo hi none x.length).1 (sliceBounds lo hi none x.length).2.1 (sliceBounds lo hi none x.length).2.2 := rfl
  rw [e, h1, h2, h3]
  unfold cutS
  rw [sliceRange_one, pick_run]
  rfl
theorem sIx_le (n d : Nat) (o : Option Int) (h : d ≤ n) : HT.sIx n d o ≤ n := by
  cases o with
  | none => exact h
  | some v =>
    show (if v < 0 then (v + (n : Int)).toNat else min v.toNat n) ≤ n
    split <;> omega
theorem sl_str {X : Cx} : SlR X rSlS := by
  intro pins s σ H x v vl vu lo hi sl Q I rx hs pl pu h
  obtain ⟨z, rfl, hz, q⟩ := h
  obtain ⟨t, rfl⟩ := rx
  refine ⟨"str", _, PySem.F.slot_str_getitem.lookup, typeIs_str _ _ _, ?_⟩
  have part : ∀ {v : Value} {k : Option Int}, IsPart v k → ∃ l : Option (Int × Tok), v = partValue l ∧ l.map (·.1) = k := fun {v k} h => by
    cases h with
    | none => exact ⟨none, rfl, rfl⟩
    | int i t => exact ⟨some (i, t), rfl, rfl⟩
  obtain ⟨l, rfl, el⟩ := part pl
  obtain ⟨u, rfl, eu⟩ := part pu
  refine wpAny_getItem_str_slice (l := l) (u := u) (st := none) hs rfl ?_
  have ep : slicePicked z l u none = Builtin.Str.strSliceIndices lo hi 1 z.length := by unfold slicePicked; rw [el, eu]; rfl
  have ec := pick_cutS z lo hi
  unfold sliceMade
  rw [ep]
  split
  · rename_i hc
    have hlen : (Builtin.Str.strSliceIndices lo hi 1 z.length).length = z.length := by simpa using hc
    have : cutS z lo hi = z := by
      obtain ⟨h1, h2, h3⟩ := slice_bounds lo hi z.length
      have e : Builtin.Str.strSliceIndices lo hi 1 z.length = sliceRange (sliceBounds lo hi none z.length).1 (sliceBounds lo hi none z.length).2.1 (sliceBounds lo hi none z.length).2.2 := rfl
      rw [e, h1, h2, h3, sliceRange_one, List.length_map, List.length_range] at hlen
      have hb := sIx_le z.length z.length hi (Nat.le_refl _)
      have el : z.cps.toList.length = z.length := Array.length_toList
      obtain ⟨⟨l⟩⟩ := z
      unfold cutS
      rw [el, hlen]
      by_cases h0 : HT.sIx (Str.length ⟨⟨l⟩⟩) 0 lo = 0
      · rw [h0, List.drop_zero, List.take_of_length_le (Nat.le_of_eq el)]
      · have : Str.length ⟨⟨l⟩⟩ = 0 := by omega
        rw [this, List.take_zero]
        have : l = [] := List.eq_nil_of_length_eq_zero (by rw [← this]; exact el.symm ▸ rfl)
        rw [this]
    rw [this] at q
    exact ⟨.str z, H, I, ⟨_, rfl⟩, q⟩
  · rw [ec]
    refine ⟨?_, .str _, H, I.tok _, ⟨_, rfl⟩, q⟩
    have : (cutS z lo hi).length ≤ z.length := by
      unfold cutS Str.length
      simp only [List.size_toArray, List.length_take, List.length_drop, Array.length_toList]
      omega
    omega

def rSlA (K : PySem.W.Frag) : V → Option Int → Option Int → Hp → VK → Prop := fun x lo hi H Q => rSlS x lo hi H Q ∨ rSlT K x lo hi H Q ∨ rSlL K x lo hi H Q
theorem sl_any {X : Cx} : SlR X (rSlA X.K) := sl_str.or (sl_tup.or sl_list)
section
variable {K : PySem.W.Frag} {σ : St} {H : Hp} {Q : VK}
theorem st_sl {r : V → Option Int → Option Int → Hp → VK → Prop} {te : TE} {tl th : TO} (h : te σ H fun x H1 => tl σ H1 fun l H2 => th σ H2 fun u H3 => r x l u H3 Q) : tSl r te tl th σ H Q := h
theorem st_part {t : TE} {R : Option Int → Hp → Prop} (h : t σ H fun x H1 => ∃ i, x = .int i ∧ R (some i) H1) : tPart t σ H R := h
theorem st_nopart {R : Option Int → Hp → Prop} (h : R none H) : tNoPart σ H R := h
theorem st_int {i : Int} {R : Int → Prop} (h : R i) : ∃ j, V.int i = .int j ∧ R j := ⟨i, rfl, h⟩
theorem st_repl {te : TE} {y z : Str} (h : te σ H fun x H1 => ∃ a, x = .str a ∧ a.length ≤ 1048576 ∧ Q (.str (PySem.Txt.replace a y z)) H1) : tRepl te y z σ H Q := h
theorem st_enumS {ta : TA} {R : It → Hp → Prop} (h : ta σ H fun vs H1 => ∃ z, vs = [.str z] ∧ R (Itp z.cps.size fun i xs => ∃ c, z.cps.toList[i]? = some c ∧ xs = [.int i, .str ⟨#[c]⟩]) H1) : iEnumS ta σ H R := h
theorem st_iStr {tl : TE} {R : It → Hp → Prop} (h : tl σ H fun x H1 => ∃ z, x = .str z ∧ R (Itx z.cps.size (signV z)) H1) : iStr tl σ H R := h
theorem v_eqS {x y : Str} (h : Q (.bl (decide (x = y))) H) : rEqA K (.str x) (.str y) H Q := by
  refine v_eq rfl ?_
  have e : (decide ((V.str x) = V.str y)) = decide (x = y) := by simp
  rw [e]; exact h
theorem v_neS {x y : Str} (h : Q (.bl (!decide (x = y))) H) : rNeA K (.str x) (.str y) H Q := by
  refine v_ne rfl ?_
  have e : (decide ((V.str x) = V.str y)) = decide (x = y) := by simp
  rw [e]; exact h
theorem v_eqI {x y : Int} (h : Q (.bl (decide (x = y))) H) : rEqA K (.int x) (.int y) H Q := by
  refine v_eq rfl ?_
  have e : (decide ((V.int x) = V.int y)) = decide (x = y) := by simp
  rw [e]; exact h
theorem v_neI {x y : Int} (h : Q (.bl (!decide (x = y))) H) : rNeA K (.int x) (.int y) H Q := by
  refine v_ne rfl ?_
  have e : (decide ((V.int x) = V.int y)) = decide (x = y) := by simp
  rw [e]; exact h
end

def tStrs (xs : List Str) : TA := fun _ H R => R (strV xs) H
theorem pa_s0 {X : Cx} : PA X [] (tStrs []) := pa_nil
theorem pa_s1 {X : Cx} {es : List Expr} {xs : List Str} {x : Str} {j : Nat} {p : Pos} (h : PA X es (tStrs xs)) : PA X (.Constant (.str x) j p :: es) (tStrs (x :: xs)) := pa_cons (te := tC (.str x)) pe_str h
theorem st_strs {σ : St} {H : Hp} {xs : List Str} {R : List V → Hp → Prop} (h : R (strV xs) H) : tStrs xs σ H R := h
end L2

namespace L2
open PySem PySem.Spec PyProof.Rows PySem.SeqAt PySem.Builtin PySem.Builtin.Str

section
variable {X : Cx}
theorem blVals : ∀ {bs : List Bool} {us : List Value}, Vals (bs.map V.bl) us → us = bs.map Value.bool
  | [], _, h => by cases h; rfl
  | b :: bs, _, h => by
    have h : Vals (V.bl b :: bs.map V.bl) _ := h
    cases h with
    | cons r t => rw [blVals t]; cases (show _ = Value.bool b from r); rfl
theorem range_any (bs : List Bool) : (List.range bs.length).any (fun i => (bs[i]?).getD false) = bs.any id := by
  rw [Bool.eq_iff_iff, List.any_eq_true, List.any_eq_true]
  constructor
  · rintro ⟨i, hi, h⟩
    have hi := List.mem_range.mp hi
    rw [List.getElem?_eq_getElem hi] at h
    exact ⟨_, List.getElem_mem hi, h⟩
  · rintro ⟨b, hb, h⟩
    obtain ⟨i, hi, e⟩ := List.getElem_of_mem hb
    exact ⟨i, List.mem_range.mpr hi, by rw [List.getElem?_eq_getElem hi, e]; exact h⟩
def r_any (K : PySem.W.Frag) : List V → Hp → VK → Prop := fun xs H Q => ∃ (p : Addr) (bs : List Bool), xs = [.ref p] ∧ SqL K H p (bs.map V.bl) ∧ Q (.bl (bs.any id)) H
theorem call_anyA (hc : X.calm = true) : CallR X (.builtin "any") (r_any X.K) := by
  intro pins s σ H xs us Q I r h
  obtain ⟨p, bs, rfl, hq, q⟩ := h
  obtain ⟨u, rfl, ru⟩ := vals1 r
  cases ru
  obtain ⟨its, rv, pl, hz⟩ := I.list hq
  have ei := blVals rv
  subst ei
  refine wpAny_with_toks (n := 1) I.tk (call_any_walk (wpAny_pyIter_list pl.isList ?_))
  have ne : p ≠ s.heap.objs.size := Nat.ne_of_lt (by obtain ⟨o, e, _⟩ := pl.isList; exact Heap.lt_size e)
  refine ⟨_, _, _, _, _, _, fun i => (bs[i]?).getD false, rfl, Walks.list (show X.A.in1.handled = none from I.ok.hd hc) s.heap.objs.size p ne _, ⟨⟨_, Heap.get?_push_size _ rfl, rfl, rfl⟩, pl.isList.at fun o e => Heap.get?_push_of_some _ e⟩, ?_, fun h' tk hk ht => ?_⟩
  · intro i v s Q E hP hQ
    have hP : (bs.map Value.bool)[i]? = some v := by simpa using hP
    rw [List.getElem?_map] at hP
    obtain ⟨b, hb, rfl⟩ := Option.map_eq_some_iff.mp hP
    have hQ : Q ((bs[i]?).getD false) s := hQ
    rw [hb] at hQ
    exact wpAny_pure hQ
  · refine ⟨.bl (bs.any id), H, I.kept (fun b o e => hk b o ?_ (Heap.get?_push_of_some _ e)) ht, ?_, q⟩
    · intro z
      have : b = s.heap.objs.size := by simpa using z
      exact absurd (Heap.lt_size e) (by rw [this]; exact Nat.lt_irrefl _)
    · show Value.bool _ = Value.bool _
      rw [← range_any bs]
      congr 2
      simp

section
variable {K : PySem.W.Frag} {σ : St} {H : Hp} {Q : VK}
theorem v_any {p : Addr} {bs : List Bool} (h : SqL K H p (bs.map V.bl)) (q : Q (.bl (bs.any id)) H) : r_any K [.ref p] H Q := ⟨p, bs, rfl, h, q⟩
theorem str_comp {g : TG} {tt : TT} {te : TE} {σ' : St} {z : Str} (Pv : Nat → List V → Hp → Prop) (h0 : Pv 0 [] H) (hlen : ∀ i ys H, i ≤ z.cps.size → Pv i ys H → ys.length ≤ sizeLine)
    (hs : ∀ (i c : Nat) ys H, z.cps.toList[i]? = some c → Pv i ys H → g (.str ⟨#[c]⟩) σ' H fun σ2 H2 => tt σ2 H2 fun b H3 => if b = true then te σ2 H3 fun y H4 => Pv (i + 1) (ys ++ [y]) H4 else Pv (i + 1) ys H3)
    (hd : ∀ ys H, Pv z.cps.size ys H → ∀ p, H p = none → Q (.ref p) (upd H p (.lst ys))) :
    ∃ z', V.str z = .str z' ∧ CompW g tt te σ' Q (Itx z'.cps.size (signV z')) H := by
  refine ⟨z, rfl, fun i m ys H => m = z.cps.size - i ∧ i ≤ z.cps.size ∧ Pv i ys H, ⟨z.cps.size, by simp, Nat.zero_le _, h0⟩, ?_⟩
  rintro i m ys H ⟨rfl, hi, p⟩
  refine ⟨hlen i ys H hi p, ?_⟩
  by_cases hlt : i < z.cps.size
  · refine .inr ⟨hlt, Pv (i + 1), fun ys' H' p' => ⟨z.cps.size - (i + 1), by omega, rfl, hlt, p'⟩, fun x H' y => ?_⟩
    obtain ⟨rfl, c, ec, rfl⟩ := y
    exact hs i c ys _ ec p
  · have e : i = z.cps.size := by omega
    subst e
    exact .inl ⟨Nat.le_refl _, hd ys H p⟩
end
end
end L2

namespace L2
open PySem PySem.Spec PyProof.Rows PySem.SeqAt

section
variable {X : Cx}
def tRev3 (K : PySem.W.Frag) (te : TE) : TE := fun σ H Q => te σ H fun x H1 => ∃ a xs, x = .ref a ∧ SqL K H1 a xs ∧ ∀ p, H1 p = none → Q (.ref p) (upd H1 p (.lst xs.reverse))
def r_min (_ : PySem.W.Frag) : List V → Hp → VK → Prop := fun xs H Q => ∃ i j, xs = [.int i, .int j] ∧ Q (.int (if j < i then j else i)) H
def r_max (_ : PySem.W.Frag) : List V → Hp → VK → Prop := fun xs H Q => ∃ i j, xs = [.int i, .int j] ∧ Q (.int (if j > i then j else i)) H
end
section
variable {σ : St} {H : Hp} {Q : VK} {K : PySem.W.Frag}
theorem st_rev3 {te : TE} (h : te σ H fun x H1 => ∃ a xs, x = .ref a ∧ SqL K H1 a xs ∧ ∀ p, H1 p = none → Q (.ref p) (upd H1 p (.lst xs.reverse))) : tRev3 K te σ H Q := h
theorem st_bm0 {T : String} {r : V → List V → Hp → VK → Prop} {to : TE} (h : to σ H fun x H1 => tyV K T x H1 ∧ r x [] H1 Q) : tBM0 K T r to σ H Q := h
theorem v_min {i j : Int} (h : Q (.int (if j < i then j else i)) H) : r_min K [.int i, .int j] H Q := ⟨i, j, rfl, h⟩
theorem v_max {i j : Int} (h : Q (.int (if j > i then j else i)) H) : r_max K [.int i, .int j] H Q := ⟨i, j, rfl, h⟩
end

section
variable {prog : Program} {w : World} {A : Around} {E : Value → Shared → Prop} {s : Shared}
theorem getItem_tuple_whole {t sl : Addr} {items : Array Value} {vl vu : Value} {lo hi : Option Int} {Q : Value → Shared → Prop} (ht : IsTup s.heap t items) (hs : s.heap.IsSliceOf sl vl vu .none) (pl : IsPart vl lo) (pu : IsPart vu hi)
    (hw : HT.sIx items.size 0 lo = 0 ∧ HT.sIx items.size items.size hi = items.size) (h : Q (.ref t) s) : wpAny (model prog w) A (getItem (.ref t) (.ref sl)) Q E s := by
  obtain ⟨os, hos, hcs, hds⟩ := id hs
  have hTs : s.TypeIs (.ref sl) "slice" := ⟨os, hos, hcs⟩
  unfold getItem
  try with_reducible refine wpAny_holding ?_
  first | refine wpAny_bind (wpAny_pure ?_) | skip
  refine wpAny_bind (wpAny_sequenceKey ht.typeIs (by decide) ?_)
  refine wpAny_bind (wpAny_callSpecial?_slot (name := Str.ofString "__getitem__") ht.typeIs PyProof.Rows.slot_tuple_getitem
    (wpAny_call_entry PyProof.Rows.slot_tuple_getitem ht.typeIs entry_tuple_getitem ?_ (args_tuple_getitem _ _)))
  show wpAny _ _ (Builtin.Tuple.tupleItemsOf (.ref t) >>= _) _ _ s
  refine wpAny_bind (tupleItemsOf_ ht ?_)
  refine wpAny_bind (wpAny_typeOf hTs ?_)
  rw [if_pos (by decide)]
  refine wpAny_bind (HT.sliceApplied_gen hs pl pu ?_)
  have hyes : ((((HT.sIx items.size 0 lo : Nat) : Int) == 0 && (1 : Int) == 1 && (HT.sIx items.size items.size hi - HT.sIx items.size 0 lo) == items.size) = true) := by
    rw [hw.1, hw.2]; simp
  show wpAny _ _ (if (((HT.sIx items.size 0 lo : Nat) : Int) == 0 && (1 : Int) == 1 && (HT.sIx items.size items.size hi - HT.sIx items.size 0 lo) == items.size) = true then _ else _) _ _ s
  rw [if_pos hyes]
  refine wpAny_bind (m := Builtin.Tuple.tupleIsExact (.ref t)) ?_
  unfold Builtin.Tuple.tupleIsExact
  refine wpAny_bind (wpAny_typeOf ht.typeIs (wpAny_pure ?_))
  rw [if_pos (by decide)]
  first
    | exact wpAny_bind (wpAny_rule (wpAny_bind (wpAny_pure ⟨_, rfl, wpAny_pure h⟩)))
    | exact wpAny_bind (wpAny_rule (wpAny_pure ⟨_, rfl, wpAny_pure h⟩))
    | exact wpAny_bind (wpAny_rule (wpAny_pure (wpAny_pure ⟨_, rfl, wpAny_pure h⟩)))
end
section
variable {X : Cx}
def rSlW (K : PySem.W.Frag) : V → Option Int → Option Int → Hp → VK → Prop := fun x lo hi H Q => ∃ a xs, x = .ref a ∧ SqT K H a xs ∧ (HT.sIx xs.length 0 lo = 0 ∧ HT.sIx xs.length xs.length hi = xs.length) ∧ Q (.ref a) H
theorem sl_tupW : SlR X (rSlW X.K) := by
  intro pins s σ H x v vl vu lo hi sl Q I rx hs pl pu h
  obtain ⟨a, xs, rfl, hx, hw, q⟩ := h
  cases rx
  obtain ⟨its, r, ht, hz⟩ := I.tuple hx
  have hlen : its.toArray.size = xs.length := by rw [List.size_toArray]; exact r.length.symm
  refine ⟨"tuple", _, PyProof.Rows.slot_tuple_getitem.lookup, ht.typeIs, ?_⟩
  exact getItem_tuple_whole ht hs pl pu (by rw [hlen]; exact hw) ⟨.ref a, H, I, rfl, q⟩
def rSlB (K : PySem.W.Frag) : V → Option Int → Option Int → Hp → VK → Prop := fun x lo hi H Q => rSlA K x lo hi H Q ∨ rSlW K x lo hi H Q
theorem sl_anyB : SlR X (rSlB X.K) := sl_any.or sl_tupW
/-- () + u -/
def rCat0 (K : PySem.W.Frag) : R2 := fun x y H Q => ∃ a b ys, x = .ref a ∧ y = .ref b ∧ SqT K H a [] ∧ SqT K H b ys ∧ Q (.ref b) H
theorem op_cat0 : OpR X (binaryOp .Add) (rCat0 X.K) := by
  intro pins s σ H x y v u Q I rx ry h
  obtain ⟨a, b, ys, rfl, rfl, ha, hb, q⟩ := h
  cases rx
  cases ry
  obtain ⟨its, r1, p1, _⟩ := I.tuple ha
  obtain ⟨its2, r2, p2, _⟩ := I.tuple hb
  cases r1
  obtain ⟨⟨cls, dd, data, sl⟩, ho, hc, n, hd⟩ := id p1
  obtain ⟨⟨cls2, dd2, data2, sl2⟩, ho2, hc2, n2, hd2⟩ := id p2
  simp only at hc hd hc2 hd2
  subst hc hd hc2 hd2
  exact concat_meets ⟨_, ho, rfl⟩ ⟨_, ho2, rfl⟩ noFill_tuple_add seq_tuple_add PySem.F.slot_tuple_add PySem.F.entry_tuple_add (PySem.F.args_tuple_add_2 _ _)
      (tuple_addW0 a b _ its2.toArray n n2 dd dd2 sl sl2 (by simp)) ⟨ho, ho2, ⟨.ref b, H, I, rfl, q⟩⟩
def rAddB (K : PySem.W.Frag) : R2 := fun x y H Q => rAddA K x y H Q ∨ rCat0 K x y H Q
theorem op_addB : OpR X (binaryOp .Add) (rAddB X.K) := op_addA.or op_cat0
end
section
variable {H : Hp} {Q : VK} {K : PySem.W.Frag}
/-- t + u, whatever they are -/
theorem v_catT {a b : Addr} {xs ys : List V} (h1 : SqT K H a xs) (h2 : SqT K H b ys) (hz : xs.length + ys.length ≤ sizeLine) (h : ∀ p H', Same H H' → SqT K H' p (xs ++ ys) → Q (.ref p) H') : rAddB K (.ref a) (.ref b) H Q := by
  by_cases hx : xs = []
  · subst hx
    exact .inr ⟨a, b, ys, rfl, rfl, h1, h2, h b H (fun _ _ e => e) h2⟩
  · refine .inl (.inr (.inr (.inr ⟨a, b, xs, ys, rfl, rfl, h1, h2, hx, hz, fun hy => ?_, fun hy p hp => h p _ (Same.new hp _) (SqT.of upd_same)⟩)))
    subst hy
    exact h a H (fun _ _ e => e) (by rw [List.append_nil]; exact h1)
/-- t[lo:hi], whatever it is -/
theorem v_slT {a : Addr} {xs : List V} {lo hi : Option Int} (h1 : SqT K H a xs) (h : ∀ p H', Same H H' → SqT K H' p (cutV xs lo hi) → Q (.ref p) H') : rSlB K (.ref a) lo hi H Q := by
  by_cases hw : HT.sIx xs.length 0 lo = 0 ∧ HT.sIx xs.length xs.length hi = xs.length
  · refine .inr ⟨a, xs, rfl, h1, hw, h a H (fun _ _ e => e) ?_⟩
    unfold cutV
    rw [hw.1, hw.2, List.drop_zero, Nat.sub_zero, List.take_length]; exact h1
  · exact .inl (.inr (.inl ⟨a, xs, rfl, h1, hw, fun p hp => h p _ (Same.new hp _) (SqT.of upd_same)⟩))
theorem v_shr {i j : Int} (c : 0 ≤ j) (h : Q (.int (i / 2 ^ j.toNat)) H) : rI (fun _ j => 0 ≤ j) (fun i j => .int (i / 2 ^ j.toNat)) (.int i) (.int j) H Q := ⟨i, j, rfl, rfl, c, h⟩
theorem v_shl {i j : Int} (c : CPow i j) (h : Q (.int (i * 2 ^ j.toNat)) H) : rI CPow (fun i j => .int (i * 2 ^ j.toNat)) (.int i) (.int j) H Q := ⟨i, j, rfl, rfl, c, h⟩
end

def iRng3 (ta : TA) : TI := fun σ H R => ta σ H fun vs H1 => ∃ n : Nat, vs = [.int ((n : Int) - 1), .int (-1), .int (-1)] ∧ (n : Int) < 2 ^ 62 ∧ R (Itv n) H1
theorem size_down (n : Nat) : Builtin.Range.rangeSize ((n : Int) - 1) (-1) (-1) = n := by
  unfold Builtin.Range.rangeSize
  rw [if_neg (by decide)]
  have e : (- (-1) : Int) = 1 := by decide
  rw [e, Int.ediv_one]
  split <;> omega
theorem pi_range3 {X : Cx} {tg : Expr} {a b c : Expr} {ta : TA} {p pos : Pos} (hg : Gl X "range") (hm : X.mg "range" = none) (ha : PA X [a, b, c] ta)
    (hs : starEach [a, b, c] X.env = (false, eval a X.env) :: starEach [b, c] X.env := by rfl) (hs2 : starEach [b, c] X.env = [(false, eval b X.env), (false, eval c X.env)] := by rfl) :
    PI X tg (.Call (.Name "range" p) [a, b, c] [] pos) (iRng3 ta) := by
  intro pins s σ H R I h
  refine Call_ (ld_blt I hg hm boot_range (PyProof.Rows.callWith_type1 (thn (ha pos pins s σ H _ I h) fun us s1 ⟨vs, H1, I1, r1, q1⟩ => ?_) hs (by rw [hs2]; rfl)))
  obtain ⟨n, e, q1, q⟩ := q1
  subst e
  cases r1 with
  | cons r rr =>
    cases rr with
    | cons r' rr =>
      cases rr with
      | cons r'' rr =>
        cases rr
        obtain ⟨t, rfl⟩ := r
        obtain ⟨t', rfl⟩ := r'
        obtain ⟨t'', rfl⟩ := r''
        refine call_range_3 (by decide) ?_ (Or.inl (PyProof.noPylong_small (by decide)))
        have I2 : Inv X pins σ H1 { s1 with heap := s1.heap.push { cls := .type "range", data := .fields #[.int ((n : Int) - 1) t, .int (-1) t', .int (-1) t''] }, toks := s1.toks } := I1.kept (t' := s1.toks) fun b o e => Heap.get?_push_of_some _ e
        refine wpAny_pyIter_range (IsRange.new ..) ?_ ?_
        · unfold Builtin.Range.small
          rw [size_down]
          simp only [Builtin.Range.rangeFitsLong, Bool.and_eq_true, Bool.or_eq_true, decide_eq_true_eq, beq_iff_eq, show ¬ ((-1 : Int) > 0) by decide, if_false]
          omega
        refine ⟨_, [_], _, _, H1, rfl, I2.kept (t' := s1.toks) fun b o e => Heap.get?_push_of_some _ e, turn_rev _ n, ?_, fun b hb => ?_, q⟩
        · have e1 : (n : Int) - 1 + ((0 : Nat) : Int) * (-1) = (n : Int) - 1 := by simp
          have e2 : (n : Int) - ((0 : Nat) : Int) = n := by simp
          rw [e1, e2]
          have := Heap.get?_push_size (s1.heap.push { cls := .type "range", data := .fields #[.int ((n : Int) - 1) t, .int (-1) t', .int (-1) t''] }) (o := { cls := .type "range_iterator", data := .fields #[rawInt ((n : Int) - 1), rawInt (Builtin.Range.rangeSize ((n : Int) - 1) (-1) (-1)), rawInt (-1)] }) rfl
          rw [size_down] at this ⊢
          exact this
        · have e : b = (s1.heap.push { cls := .type "range", data := .fields #[.int ((n : Int) - 1) t, .int (-1) t', .int (-1) t''] }).objs.size := by simpa using hb
          subst e
          exact I2.fpOk (Nat.le_refl _) (I2.hok.fresh (Nat.le_refl _))
section
variable {σ : St} {H : Hp}
theorem st_rng3 {ta : TA} {R : It → Hp → Prop} (h : ta σ H fun vs H1 => ∃ n : Nat, vs = [.int ((n : Int) - 1), .int (-1), .int (-1)] ∧ (n : Int) < 2 ^ 62 ∧ R (Itv n) H1) : iRng3 ta σ H R := h
end

section
variable {prog : Program} {w : World} {A : Around} {E : Value → Shared → Prop} {s : Shared}
theorem nextOf_tuple_item {it l : Addr} {i : Nat} {items} {x : Value} {Q : Value → Shared → Prop} (hit : s.heap.IsTupleIter it l i) (hl : s.heap.IsTuple l items) (hx : items[i]? = some x)
    (hQ : ∀ h', h'.IsTupleIter it l (i + 1) → Heap.SameBut it s.heap h' → Q x { s with heap := h' }) :
    wpAny (model prog w) A (Builtin.SmallTypes.nextOf (.ref it)) Q E s := by
  obtain ⟨o, ho, hc, hd⟩ := id hit
  obtain ⟨ol, hol, _, nl, hdl⟩ := hl
  unfold Builtin.SmallTypes.nextOf
  refine wpAny_bind (wpAny_callSpecial?_slot (name := Str.ofString "__next__") hit.typeIs F.slot_tuple_iterator_next
    (wpAny_call_entry F.slot_tuple_iterator_next hit.typeIs F.entry_tuple_iterator_next ?_ (F.args_tuple_iterator_next_1 _)))
  show wpAny _ _ (field (.ref it) 0 >>= _) _ _ s
  refine wpAny_bind (wpAny_field ho hd (x := .ref l) rfl ?_)
  show wpAny _ _ (if (Value.ref l == Value.none) = true then _ else _) _ _ s
  rw [if_neg (show ¬ ((Value.ref l == Value.none) = true) from Bool.false_ne_true)]
  show wpAny _ _ (field (.ref it) 1 >>= _) _ _ s
  refine wpAny_bind (wpAny_field ho hd (x := .int i 0) rfl ?_)
  show wpAny _ _ (seqItems? (.ref l) >>= _) _ _ s
  refine wpAny_bind (wpAny_seqItems hol hdl ?_)
  simp only [Int.toNat_natCast, hx]
  refine wpAny_bind (wpAny_setField ho hd (by simp) (wpAny_pure ⟨x, rfl, wpAny_pure (hQ _ ?_ (Heap.SameBut.update ..))⟩))
  exact ⟨_, Heap.get?_update_self _ ho (Obj.isFreed_of_fields (Obj.data_mapFields hd _)), (Obj.cls_mapFields ..).trans hc, by
    rw [Obj.data_mapFields hd]; simp [rawInt]⟩
theorem nextOf_tuple_end {it l : Addr} {i : Nat} {items} {Q : Value → Shared → Prop} (hh : A.handled = none) (hit : s.heap.IsTupleIter it l i) (hl : s.heap.IsTuple l items) (hx : items[i]? = none)
    (hE : ∀ h' e, Heap.ExtBut it s.heap h' → (∃ o, h'.get? e = some o ∧ o.cls = .type "StopIteration") → E (.ref e) { s with heap := h' }) :
    wpAny (model prog w) A (Builtin.SmallTypes.nextOf (.ref it)) Q E s := by
  obtain ⟨o, ho, hc, hd⟩ := id hit
  obtain ⟨ol, hol, _, nl, hdl⟩ := hl
  unfold Builtin.SmallTypes.nextOf
  refine wpAny_bind (wpAny_callSpecial?_slot (name := Str.ofString "__next__") hit.typeIs F.slot_tuple_iterator_next
    (wpAny_call_entry F.slot_tuple_iterator_next hit.typeIs F.entry_tuple_iterator_next ?_ (F.args_tuple_iterator_next_1 _)))
  show wpAny _ _ (field (.ref it) 0 >>= _) _ _ s
  refine wpAny_bind (wpAny_field ho hd (x := .ref l) rfl ?_)
  show wpAny _ _ (if (Value.ref l == Value.none) = true then _ else _) _ _ s
  rw [if_neg (show ¬ ((Value.ref l == Value.none) = true) from Bool.false_ne_true)]
  show wpAny _ _ (field (.ref it) 1 >>= _) _ _ s
  refine wpAny_bind (wpAny_field ho hd (x := .int i 0) rfl ?_)
  show wpAny _ _ (seqItems? (.ref l) >>= _) _ _ s
  refine wpAny_bind (wpAny_seqItems hol hdl ?_)
  simp only [Int.toNat_natCast, hx]
  refine wpAny_bind (wpAny_rule (wpAny_bind (wpAny_setField ho hd (by simp) ?_)))
  show wpAny _ _ (newExc (.type "StopIteration") [] >>= _) _ _ _
  refine wpAny_bind ?_
  simp only [newExc, newTuple]
  refine wpAny_bind (wpAny_newObj_type ?_ (by size_fits))
  refine wpAny_bind (m := firstArgMember _ _) (wpAny_of_eq (a := Value.none) (by first | rfl | (simp only [firstArgMember]; rfl)) ?_)
  refine wpAny_newObj_type ?_ (by size_fits)
  simp only [raiseNew]
  refine wpAny_bind (wpAny_handled ?_)
  first | rw [show A.in1.handled = none from hh] | rw [hh]
  refine wpAny_bind (wpAny_pure (wpAny_throw ?_))
  exact hE _ _ (((Heap.SameBut.update ..).extBut.push _).push _) ⟨_, Heap.get?_push_size _ rfl, rfl⟩
end
theorem draws_tuple {prog : Program} {w : World} {A : Around} (hh : A.handled = none) (it l : Addr) (hne : l ≠ it) (items : Array Value) :
    Draws prog w A it [it, l] items.size (fun i v => items[i]? = some v) (fun i h => h.IsTupleIter it l i ∧ h.IsTuple l items) where
  live := fun _ _ st => let ⟨o, ho, _⟩ := st.1; ⟨o, ho⟩
  frame := fun _ _ _ st hk => ⟨st.1.at fun o e => hk it (by simp) o e, st.2.at fun o e => hk l (by simp) o e⟩
  item := fun i s Q E hi st hQ => by
    refine nextOf_tuple_item st.1 st.2 (x := items[i]) (by simp [hi]) fun h' hit' hs' => ?_
    exact hQ _ h' s.toks (by simp [hi]) ⟨hit', st.2.extBut hs'.extBut hne⟩ hs'
  done := fun s Q E st hE => nextOf_tuple_end hh st.1 st.2 (by simp) hE
set_option maxHeartbeats 1000000 in
theorem meets_enumerate_newT (l : Addr) (items : Array Value) (n : Nat) (dct : Option Addr) (sl : Array (Option Value)) :
    Meets (Builtin.«enumerate.__new__» ⟨[.type "enumerate", .ref l], []⟩) (fun _ R s => s.heap.get? l = some { cls := .type "tuple", dict := dct, data := .seq items n, slots := sl } ∧
      R (.ok (.ret (.ref (s.heap.push { cls := .type "tuple_iterator", data := .fields #[.ref l, .int 0 0] }).objs.size)))
        { s with heap := (s.heap.push { cls := .type "tuple_iterator", data := .fields #[.ref l, .int 0 0] }).push { cls := .type "enumerate", data := .fields #[.none, .bool false, .ref s.heap.objs.size, rawInt 0, .none, .none] } }) :=
  .of_wp fun prog w A R s h => by
    obtain ⟨hp, g, d, tk, os⟩ := s; obtain ⟨hl, h⟩ := h
    have hsub := sub_enumerate
    have hL : Heap.IsTuple (Shared.heap ⟨hp, g, d, tk, os⟩) l items := ⟨_, hl, rfl, n, rfl⟩
    wp_walk using AutoSeq1.wpAny_loadPart' hl
    refine wpAny_stack_any fun st => wpAny_pure ?_
    split
    · rename_i c _ _ _ _ _
      cases (c == Value.type "enumerate")
      · wp_walk using AutoSeq1.wpAny_loadPart' hl, wpAny_pyIter_tuple hL
        exact ⟨_, rfl, h⟩
      · wp_walk using AutoSeq1.wpAny_loadPart' hl, wpAny_pyIter_tuple hL
        exact ⟨_, rfl, h⟩
    · wp_walk using AutoSeq1.wpAny_loadPart' hl, wpAny_pyIter_tuple hL
      exact ⟨_, rfl, h⟩
theorem call_enumerate_tuple {prog : Program} {w : World} {A : Around} {E : Value → Shared → Prop} {s : Shared} {l : Addr} {items : Array Value} {Q : Value → Shared → Prop} (hL : s.heap.IsTuple l items)
    (h : ∀ h', IsEnum h' (s.heap.objs.size + 1) s.heap.objs.size 0 .none → h'.IsTupleIter s.heap.objs.size l 0 → h'.objs.size = s.heap.objs.size + 2 →
      (∀ b o, s.heap.get? b = some o → h'.get? b = some o) → Q (.ref (s.heap.objs.size + 1)) { s with heap := h' }) :
    wpAny (model prog w) A (call (.type "enumerate") [.ref l]) Q E s := by
  obtain ⟨⟨c, dct, dt, sl⟩, hl, hc, n, hd⟩ := hL
  replace hc : c = .type "tuple" := hc
  replace hd : dt = .seq items n := hd
  subst hc hd
  refine callType_new F.called_enumerate (by decide) (F.typeCall_enumerate_1 _) (F.newCall_enumerate_1 _) (fun obj => F.args_object_init_2 obj _) F.entry_enumerate_new
    (meets_enumerate_newT l items n dct sl) ⟨hl, ?_⟩
  have hz : (s.heap.push { cls := .type "tuple_iterator", data := .fields #[.ref l, .int 0 0] }).objs.size = s.heap.objs.size + 1 := Heap.size_push ..
  show _ ∧ _
  rw [hz]
  have he : IsEnum ((s.heap.push { cls := .type "tuple_iterator", data := .fields #[.ref l, .int 0 0] }).push
      { cls := .type "enumerate", data := .fields #[.none, .bool false, .ref s.heap.objs.size, rawInt 0, .none, .none] }) (s.heap.objs.size + 1) s.heap.objs.size 0 .none := by
    have := Heap.get?_push_size (s.heap.push { cls := .type "tuple_iterator", data := .fields #[.ref l, .int 0 0] })
      (o := { cls := .type "enumerate", data := .fields #[.none, .bool false, .ref s.heap.objs.size, rawInt 0, .none, .none] }) rfl
    rw [hz] at this; exact this
  refine ⟨⟨_, he, rfl⟩, h _ he ⟨_, Heap.get?_push_of_some _ (Heap.get?_push_size _ rfl), rfl, rfl⟩ (by rw [Heap.size_push, hz]) fun b o y => Heap.get?_push_of_some _ (Heap.get?_push_of_some _ y)⟩
/-- the items of the tuple at a, each with its number, in a new tuple -/
def Ite (K : PySem.W.Frag) (a : Addr) : It := ⟨fun i H => ∃ xs x, SqT K H a xs ∧ xs[i]? = some x, fun i H x H' => ∃ p y, x = .ref p ∧ H p = none ∧ (∀ xs, SqT K H a xs → xs[i]? = some y) ∧ H' = upd H p (.tup [.int i, y]), fun i H => ∃ xs, SqT K H a xs ∧ xs.length ≤ i⟩
theorem turn_enumT {P : Program} {w : World} {K : PySem.W.Frag} {elts : List Expr} {k : Nat} {pos : Pos} (a e it : Addr) (hei : e ≠ it) :
    Turn P w K (.Tuple elts k pos) (Ite K a) [e, it] e (fun i h => (∃ old, IsEnum h e it i old) ∧ h.IsTupleIter it a i) where
  mem := by simp
  obj := by
    rintro i h ⟨⟨old, e1⟩, o2, e2, _, d2⟩ b hb
    have hb : b = e ∨ b = it := by simpa using hb
    rcases hb with rfl | rfl
    · exact ⟨_, e1, fun v z => by cases (show Data.fields _ = Data.cell v from z)⟩
    · exact ⟨_, e2, fun v z => by rw [d2] at z; cases z⟩
  keep := fun i h h' st kk => ⟨let ⟨old, e1⟩ := st.1; ⟨old, kk e (by simp) _ e1⟩, st.2.at fun o q => kk it (by simp) o q⟩
  item := by
    intro X hP hw hK hc i pins s σ H E I hf st hg
    subst hP hw hK
    obtain ⟨xs, x, hq, hx⟩ := hg
    obtain ⟨its, rv, p, hz⟩ := I.tuple hq
    obtain ⟨u, hu, ru⟩ := rv.get hx
    have hil : i < its.toArray.size := by rw [List.size_toArray]; exact (List.getElem?_eq_some_iff.mp hu).1
    have pT : s.heap.IsTuple a its.toArray := p
    have nea : a ≠ it := fun z => by
      obtain ⟨o1, h1, c1, _⟩ := pT
      obtain ⟨o2, h2, c2, _⟩ := st.2
      rw [z, h2] at h1
      cases h1
      rw [c1] at c2
      exact absurd c2 (by decide)
    have nee : e ≠ a := fun z => by
      obtain ⟨o1, h1, c1, _⟩ := pT
      obtain ⟨old, h2⟩ := st.1
      rw [← z] at h1
      have h2 : s.heap.get? e = some _ := h2
      rw [h2] at h1
      cases h1
      exact absurd c1 (show ¬ (Value.type "enumerate" = Value.type "tuple") by decide)
    have W := WalksT.enumerateD (prog := X.prog) (w := X.w) (A := X.A) (draws_tuple (A := X.A.in1) (show X.A.in1.handled = none from I.ok.hd hc) it a nea its.toArray) e hei (by simp [hei, nee]) (by simp)
    refine wpAny_with_toks (n := 1) I.tk (W.item i s _ _ hil ⟨st.1, st.2, pT⟩ fun T vs h' tk hv hT htup hmid kk ht => ?_)
    have ht : 0 < tk := ht
    obtain ⟨tk1, y, hy, rfl⟩ := hv
    have hy : its[i]? = some y := by simpa using hy
    rw [hu] at hy
    injection hy with hy
    subst hy
    have hap := W.apart i T h' hmid
    refine ⟨_, rfl, W.go elts k pos i T { s with heap := h', toks := tk } _ _ hmid fun h2 st2 k2 => ?_⟩
    have htup2 : IsTup h2 T [Value.int i tk1, u].toArray := by
      obtain ⟨o, e, c⟩ := htup
      exact ⟨o, k2 T o hap e, by simpa using c⟩
    have I1 : Inv X pins σ (upd H T (.tup [.int i, x])) { s with heap := h2, toks := tk } := I.turnLaid (ch := [e, it]) (fun b hb => hf b hb) (fun b u hb e => k2 b u hb (kk b u hb e)) hT ⟨by rw [sizeLine_eq]; simp, [Value.int i tk1, u], .cons ⟨tk1, rfl⟩ (.cons ru .nil), htup2⟩ ht
    refine ⟨.ref T, _, I1, rfl, ⟨T, x, rfl, I.hok.fresh hT, fun ys hy => by rw [I.tuple_inj hy hq]; exact hx, rfl⟩, ⟨st2.1, st2.2.1⟩, fun b hb => ?_⟩
    have hb2 : ∃ o, s.heap.get? b = some o := by
      have hb : b = e ∨ b = it := by simpa using hb
      rcases hb with rfl | rfl
      · obtain ⟨old, e1⟩ := st.1; exact ⟨_, e1⟩
      · obtain ⟨o, e1, _⟩ := st.2; exact ⟨_, e1⟩
    obtain ⟨o, e⟩ := hb2
    rw [upd_ne (Nat.ne_of_lt (Nat.lt_of_lt_of_le (Heap.lt_size e) hT))]
    exact (hf b hb).1
  done := by
    intro X hP hw hK hc i pins s σ H E I hf st hg
    subst hP hw hK
    obtain ⟨xs, hq, hx⟩ := hg
    obtain ⟨its, rv, p, hz⟩ := I.tuple hq
    have pT : s.heap.IsTuple a its.toArray := p
    have hno : its.toArray[i]? = none := by
      have := rv.length
      simp; omega
    obtain ⟨old, he⟩ := st.1
    have D : Draws X.prog X.w X.A.in1 it [it, a] 0 (fun _ _ => True) (fun _ h => h.IsTupleIter it a i ∧ h.IsTuple a its.toArray) :=
      { live := fun _ _ st => let ⟨o, ho, _⟩ := st.1; ⟨o, ho⟩
        frame := fun _ _ _ st hk => ⟨st.1.at fun o e => hk it (by simp) o e, st.2.at fun o e => hk a (by simp) o e⟩
        item := fun j s Q E hj => absurd hj (Nat.not_lt_zero _)
        done := fun s Q E st hE => nextOf_tuple_end (show X.A.in1.handled = none from I.ok.hd hc) st.1 st.2 hno hE }
    exact wpAny_pyNext_enum_endD D he ⟨st.2, pT⟩ fun h' hx => ⟨rfl, I.turnedL (ch := [e, it]) (t' := s.toks) (fun b hb => hf b hb) (fun b o hb y => hx b o (fun z => hb (by simp [z])) y) I.tk⟩
  self := fun A i s Q E st h => let ⟨old, e1⟩ := st.1; wpAny_pyIter_enum e1 h
def iEnumT (K : PySem.W.Frag) (ta : TA) : TI := fun σ H R => ta σ H fun vs H1 => ∃ a xs, vs = [.ref a] ∧ SqT K H1 a xs ∧ R (Ite K a) H1
theorem pi_enumT {X : Cx} {elts : List Expr} {k : Nat} {tpos p pos : Pos} {l : Expr} {ta : TA} (hg : Gl X "enumerate") (hm : X.mg "enumerate" = none) (ha : PA X [l] ta) (hs : starEach [l] X.env = [(false, eval l X.env)] := by rfl) :
    PI X (.Tuple elts k tpos) (.Call (.Name "enumerate" p) [l] [] pos) (iEnumT X.K ta) := by
  intro pins s σ H R I h
  refine Call_ (ld_blt I hg hm boot_enumerate (PyProof.Rows.callWith_type1 (thn (ha pos pins s σ H _ I h) fun us s1 ⟨vs, H1, I1, r1, q1⟩ => ?_) hs rfl))
  obtain ⟨a, xs, e, hq, q⟩ := q1
  subst e
  obtain ⟨v, rfl, rv⟩ := vals1 r1
  cases rv
  obtain ⟨its, rv, pT, hz⟩ := I1.tuple hq
  refine call_enumerate_tuple (show s1.heap.IsTuple a its.toArray from pT) fun h' he hit hz hk => ?_
  have I2 : Inv X pins σ H1 { s1 with heap := h' } := I1.kept (t' := s1.toks) hk
  refine wpAny_pyIter_enum he ?_
  have ne : s1.heap.objs.size + 1 ≠ s1.heap.objs.size := by omega
  refine ⟨s1.heap.objs.size + 1, _, _, _, H1, rfl, I2, turn_enumT a (s1.heap.objs.size + 1) s1.heap.objs.size ne, ⟨⟨_, he⟩, hit⟩, fun b hb => ?_, q⟩
  have hb : b = s1.heap.objs.size + 1 ∨ b = s1.heap.objs.size := by simpa using hb
  rcases hb with rfl | rfl
  · exact I1.fpOk (Nat.le_succ _) (I1.hok.fresh (Nat.le_succ _))
  · exact I1.fpOk (Nat.le_refl _) (I1.hok.fresh (Nat.le_refl _))
section
variable {σ : St} {H : Hp} {K : PySem.W.Frag}
theorem st_enumT {ta : TA} {R : It → Hp → Prop} (h : ta σ H fun vs H1 => ∃ a xs, vs = [.ref a] ∧ SqT K H1 a xs ∧ R (Ite K a) H1) : iEnumT K ta σ H R := h
theorem enumT_for {g : TG} {tb : TS} {D : Ends} {a : Addr} {xs : List V} (hq : SqT K H a xs) (Pv : Nat → St → Hp → Prop) (h0 : Pv 0 σ H) (hk : ∀ i σ H', Pv i σ H' → SqT K H' a xs)
    (hs : ∀ i x σ H p, xs[i]? = some x → Pv i σ H → H p = none → g (.ref p) σ (upd H p (.tup [.int i, x])) fun σ2 H2 => tb { D with nx := Pv (i + 1), ct := Pv (i + 1), bk := D.nx } σ2 H2) (hd : ∀ σ H, Pv xs.length σ H → D.nx σ H) :
    ∃ b ys, [V.ref a] = [.ref b] ∧ SqT K H b ys ∧ ForW g tb D σ (Ite K b) H := by
  refine ⟨a, xs, rfl, hq, fun i m σ H => m = xs.length - i ∧ i ≤ xs.length ∧ Pv i σ H, ⟨xs.length, by simp, Nat.zero_le _, h0⟩, ?_⟩
  rintro i m σ H ⟨rfl, hi, p⟩
  have sq := hk i σ H p
  by_cases hlt : i < xs.length
  · refine .inr ⟨⟨xs, xs[i], sq, by simp [hlt]⟩, Pv (i + 1), fun σ' H' p' => ⟨xs.length - (i + 1), by omega, rfl, hlt, p'⟩, fun x H' y => ?_⟩
    obtain ⟨t, z, rfl, ht, hz, rfl⟩ := y
    exact hs i z σ H t (hz xs sq) p ht
  · have e : i = xs.length := by omega
    subst e
    exact .inl ⟨⟨xs, sq, Nat.le_refl _⟩, hd σ H p⟩
theorem rng3_for {g : TG} {tb : TS} {D : Ends} {n : Nat} (hn : (n : Int) < 2 ^ 62) (Pv : Nat → St → Hp → Prop) (p0 : Pv 0 σ H)
    (hs : ∀ (i : Nat) σ H, i < n → Pv i σ H → g (.int ((n : Int) - 1 - i)) σ H fun σ2 H2 => tb { D with nx := Pv (i + 1), ct := Pv (i + 1), bk := D.nx } σ2 H2) (hd : ∀ σ H, Pv n σ H → D.nx σ H) :
    ∃ m : Nat, [V.int ((n : Int) - 1), V.int (-1), V.int (-1)] = [.int ((m : Int) - 1), .int (-1), .int (-1)] ∧ (m : Int) < 2 ^ 62 ∧ ForW g tb D σ (Itv m) H := by
  obtain ⟨m, e, h1, h2⟩ := rev_for hn Pv p0 hs hd
  injection e with e
  injection e with e
  have : n = m := by omega
  subst this
  exact ⟨n, rfl, h1, h2⟩
end

section
variable {prog : Program} {w : World} {A : Around} {E : Value → Shared → Prop} {s : Shared}
end
def Itw (b : Int) (n : Nat) : It := ⟨fun i _ => i < n, fun i H x H' => H' = H ∧ x = .int (b - 1 - i), fun i _ => n ≤ i⟩
def iRevRng2 (ta : TA) : TI := fun σ H R => ta σ H fun vs H1 => ∃ lo hi : Int, vs = [.int lo, .int hi] ∧ 0 ≤ lo ∧ lo ≤ hi ∧ hi < 2 ^ 62 ∧ R (Itw hi (hi - lo).toNat) H1
theorem st_rev2 {σ : St} {H : Hp} {ta : TA} {R : It → Hp → Prop} (h : ta σ H fun vs H1 => ∃ lo hi : Int, vs = [.int lo, .int hi] ∧ 0 ≤ lo ∧ lo ≤ hi ∧ hi < 2 ^ 62 ∧ R (Itw hi (hi - lo).toNat) H1) : iRevRng2 ta σ H R := h
end L2

local macro_rules | `(tactic| walk_at "step") => `(tactic| (repeat (first | (with_reducible first | refine L2.st_seq ?_ | refine L2.iteT ?_ | refine L2.iteF ?_ | refine L2.st_asg ?_ | refine L2.st_name ?_ | refine L2.st_C ?_ | refine L2.st_op ?_ | refine L2.st_un ?_ | refine L2.st_ret ?_ | refine L2.st_retN ?_ | refine L2.st_drop ?_ | refine L2.st_if ?_ | refine L2.st_ifE ?_ | refine L2.st_test ?_ | refine L2.st_B ?_ | refine L2.st_bl ?_ | refine L2.st_and ?_ | refine L2.st_or ?_ | refine L2.st_not ?_ | refine L2.st_andV ?_ | refine L2.st_orV ?_ | refine L2.st_notV ?_ | refine L2.st_nil ?_ | refine L2.st_cons ?_ | refine L2.st_tup ?_ | refine L2.st_lst ?_ | refine L2.st_call ?_ | refine L2.st_CB ?_ | refine L2.st_tt ?_ | refine L2.st_break ?_ | refine L2.st_cont ?_ | refine L2.st_next ?_ | refine L2.st_sub ?_ | refine L2.st_bm ?_ | refine L2.st_chain ?_ | refine L2.st_for ?_ | refine L2.st_comp ?_ | refine L2.st_any ?_ | refine L2.st_rng1 ?_ | refine L2.st_rng2 ?_ | refine L2.st_rev ?_ | refine L2.st_sl ?_ | refine L2.st_part ?_ | refine L2.st_nopart ?_ | refine L2.st_int ?_ | refine L2.st_repl ?_ | refine L2.st_enumS ?_ | refine L2.st_iStr ?_ | refine L2.st_bm0 ?_ | refine L2.st_rng3 ?_ | refine L2.st_enumT ?_ | refine L2.st_rev2 ?_ | refine L2.st_rev3 ?_ | refine L2.v_min ?_ | refine L2.v_max ?_ | refine L2.st_strs ?_ | refine L2.v_addI ?_ | refine L2.v_subI ?_ | refine L2.v_ltI ?_ | refine L2.v_leI ?_ | refine L2.v_gtI ?_ | refine L2.v_geI ?_ | refine L2.v_eqI ?_ | refine L2.v_eqS ?_ | refine L2.v_neS ?_ | refine L2.v_neI ?_ | refine L2.v_is ?_ | refine L2.v_isnot ?_) | ((with_reducible refine' L2.st_var ?ev ?_); (case ev => exact rfl)) | ((with_reducible refine L2.v_mod ?ec ?_); (case ec => first | decide | omega | assumption)) | ((with_reducible refine L2.v_fdiv ?ec ?_); (case ec => first | exact ⟨by decide, by decide⟩ | exact ⟨by omega, by omega⟩)))))
namespace My
open PySem L2 PyProof.Rows
structure Row where
  name : Str
  sort : Str
  host : Str
  shuts : List Str
  bars : List Str
def Row.da (r : Row) : PyData := .tuple [.str r.name, .str r.sort, .str r.host, .tuple (sDa r.shuts), .tuple (sDa r.bars)]
def oV : Option Str → V
  | some s => .str s
  | none => .non
section
variable {K : PySem.W.Frag} {H H' : Hp} {Q : VK}
theorem row_parts {r : Row} {v : V} (h : Dv K H r.da v) : ∃ b sv bv, v = .ref b ∧ SqT K H b [.str r.name, .str r.sort, .str r.host, sv, bv] ∧ Dv K H (.tuple (sDa r.shuts)) sv ∧ Dv K H (.tuple (sDa r.bars)) bv := by
  obtain ⟨b, ys, rfl, hb, h⟩ := dv_tuple.mp h
  rw [Dvs] at h; obtain ⟨v1, r1, rfl, e1, h⟩ := h
  rw [Dvs] at h; obtain ⟨v2, r2, rfl, e2, h⟩ := h
  rw [Dvs] at h; obtain ⟨v3, r3, rfl, e3, h⟩ := h
  rw [Dvs] at h; obtain ⟨v4, r4, rfl, e4, h⟩ := h
  rw [Dvs] at h; obtain ⟨v5, r5, rfl, e5, h⟩ := h
  rw [Dvs] at h; subst h
  rw [dv_str.mp e1, dv_str.mp e2, dv_str.mp e3] at hb
  exact ⟨b, v4, v5, rfl, hb, e4, e5⟩
/-- rows: a list or a tuple of them -/
def Rws (K : PySem.W.Frag) (H : Hp) (v : V) (rs : List Row) : Prop := ∃ a vs, v = .ref a ∧ (SqL K H a vs ∨ SqT K H a vs) ∧ Dvs K H (rs.map Row.da) vs
theorem v_eqO {x : Str} {n : Option Str} (h : Q (.bl (decide (some x = n))) H) : rEqA K (.str x) (oV n) H Q := by
  cases n with
  | none => refine v_eq rfl ?_; have e : (decide ((V.str x) = oV none)) = decide (some x = none) := by simp [oV]
            rw [e]; exact h
  | some y => refine v_eq rfl ?_; have e : (decide ((V.str x) = oV (some y))) = decide (some x = some y) := by simp [oV]
              rw [e]; exact h
theorem v_eqS {x y : Str} (h : Q (.bl (decide (x = y))) H) : rEqA K (.str x) (.str y) H Q := by
  refine v_eq rfl ?_
  have e : (decide ((V.str x) = V.str y)) = decide (x = y) := by simp
  rw [e]; exact h
theorem v_neS {x y : Str} (h : Q (.bl (!decide (x = y))) H) : rNeA K (.str x) (.str y) H Q := by
  refine v_ne rfl ?_
  have e : (decide ((V.str x) = V.str y)) = decide (x = y) := by simp
  rw [e]; exact h
theorem v_eqI {x y : Int} (h : Q (.bl (decide (x = y))) H) : rEqA K (.int x) (.int y) H Q := by
  refine v_eq rfl ?_
  have e : (decide ((V.int x) = V.int y)) = decide (x = y) := by simp
  rw [e]; exact h
end

def rowOf (rs : List Row) (n : Option Str) : Option Row := rs.find? fun r => decide (some r.name = n)
def sortOf (rs : List Row) (n : Option Str) : Option Str := (rowOf rs n).map (·.sort)
def hostOf (rs : List Row) (n : Option Str) : Option Str := (rowOf rs n).bind fun r => if r.sort = ("frame" : Str) then some r.host else none
def frameOf (rs : List Row) (n : Option Str) : Option Str := (rs.find? fun r => decide (r.sort = ("frame" : Str)) && decide (some r.host = n)).map (·.name)

def sp_row_of (K : PySem.W.Frag) : Sp := fun vs H Q _ => ∃ v n rs, vs = [v, oV n] ∧ Rws K H v rs ∧ (rowOf rs n = none → Q .non H) ∧ ∀ r u, rowOf rs n = some r → Dv K H r.da u → Q u H
theorem len_row_of (K : PySem.W.Frag) : ∀ vs H Q E, sp_row_of K vs H Q E → vs.length = ["rows", "name"].length := by
  rintro vs H Q E ⟨v, n, rs, rfl, _⟩; rfl
def R_row_of (K : PySem.W.Frag) : TS :=
 (tSeq (tFor (iAny K (tVar 0)) (gName 2)
 (tIfS (tTest (tOp (rEqA K) (tOp (rIxA K) (tVar 2) (tC (.int 0))) (tVar 1)))
 (tRet (tVar 2)) tNext))
 (tRet (tC .non)))
theorem find_none_snoc {α : Type} {p : α → Bool} : ∀ {l : List α} {i : Nat} {x : α}, l[i]? = some x → (∀ y ∈ l.take i, p y = false) → p x = true → l.find? p = some x
  | y :: l, 0, x, e, _, hp => by cases e; rw [List.find?_cons, hp]
  | y :: l, i + 1, x, e, h, hp => by
    have hy : p y = false := h y (by simp)
    rw [List.find?_cons, hy]
    exact find_none_snoc (i := i) (by simpa using e) (fun z hz => h z (by simp [hz])) hp
theorem take_all {α : Type} {P : α → Prop} {l : List α} {i : Nat} {x : α} (e : l[i]? = some x) (h : ∀ y ∈ l.take i, P y) (hx : P x) : ∀ y ∈ l.take (i + 1), P y := by
  intro y hy
  rw [List.take_add_one, e] at hy
  rcases List.mem_append.mp hy with z | z
  · exact h y z
  · have : y = x := by simpa using z
    subst this; exact hx
theorem rd_row_of {K : PySem.W.Frag} {vs : List V} {H : Hp} {Q : VK} {E : XK} (h : sp_row_of K vs H Q E) : R_row_of K { nx := fun _ H' => Q .non H', rt := Q } (start ["rows", "name", "row"] vs) H := by
  obtain ⟨v, n, rs, rfl, ⟨a, xs, rfl, hq, hd⟩, h1, h2⟩ := h
  show R_row_of K _ [some (.ref a), some (oV n), none] H
  have hlen : xs.length = rs.length := by have := hd.length; simpa using this
  unfold R_row_of
  refine st_seq (st_for (st_any (st_var rfl ?_)))
  refine any_for hq (fun i σ H' => H' = H ∧ (∃ w, σ = [some (.ref a), some (oV n), w]) ∧ ∀ r ∈ rs.take i, decide (some r.name = n) = false) ⟨rfl, ⟨_, rfl⟩, by simp⟩ (fun hl i σ H' _ p => p.1 ▸ hl) (fun ht i σ H' _ p => p.1 ▸ ht) ?_ ?_
  · rintro i x σ H' hx ⟨rfl, ⟨w, rfl⟩, hn⟩
    obtain ⟨d, hd1, hd2⟩ := hd.get' hx
    rw [List.getElem?_map] at hd1
    obtain ⟨r, hr, rfl⟩ := Option.map_eq_some_iff.mp hd1
    obtain ⟨b, sv, bv, rfl, hb, hsv, hbv⟩ := row_parts hd2
    refine st_name (st_if (st_test (st_op (st_op (st_var rfl (st_C (v_ixT hb rfl (st_var rfl (v_eqO ⟨_, rfl, ?_⟩)))))))))
    by_cases e : some r.name = n
    · rw [decide_eq_true e, if_pos rfl]
      refine ⟨_, rfl, ?_⟩
      exact h2 r _ (find_none_snoc hr hn (decide_eq_true e)) hd2
    · rw [decide_eq_false e, if_neg Bool.false_ne_true]
      exact st_next ⟨rfl, ⟨_, rfl⟩, take_all hr hn (decide_eq_false e)⟩
  · rintro σ H' ⟨rfl, ⟨w, rfl⟩, hn⟩
    show Q .non H'
    refine h1 ?_
    unfold rowOf
    rw [List.find?_eq_none]
    intro r hr
    rw [hlen, List.take_length] at hn
    simp [hn r hr]
end My

namespace My
open PySem L2 PyProof.Rows
variable {K : PySem.W.Frag} {vs : List V} {H : Hp} {Q : VK} {E : XK}

def sp_sort_of (K : PySem.W.Frag) : Sp := fun vs H Q _ => ∃ v n rs, vs = [v, oV n] ∧ Rws K H v rs ∧ Q (oV (sortOf rs n)) H
theorem len_sort_of (K : PySem.W.Frag) : ∀ vs H Q E, sp_sort_of K vs H Q E → vs.length = ["book", "name"].length := by rintro vs H Q E ⟨v, n, rs, rfl, _⟩; rfl
def R_sort_of (K : PySem.W.Frag) : TS :=
 (tSeq (tAsg (tCall (sp_row_of K) [] E0 (tCons (tVar 0) (tCons (tVar 1) tNil))) (gName 2))
 (tRet (tIf (tTest (tOp rIsA (tVar 2) (tC .non))) (tC .non) (tOp (rIxA K) (tVar 2) (tC (.int 1))))))
theorem rd_sort_of (h : sp_sort_of K vs H Q E) : R_sort_of K { nx := fun _ H' => Q .non H', rt := Q } (start ["book", "name", "row"] vs) H := by
  obtain ⟨v, n, rs, rfl, hR, q⟩ := h
  show R_sort_of K _ [some v, some (oV n), none] H
  refine ⟨_, rfl, _, rfl, v, n, rs, rfl, hR, fun e => ?_, fun r u e hu => ?_⟩
  · refine ⟨_, rfl, rfl, _, rfl, ?_⟩
    show Q .non H
    have : sortOf rs n = none := by unfold sortOf; rw [e]; rfl
    rw [this] at q; exact q
  · obtain ⟨b, sv, bv, rfl, hb, _, _⟩ := row_parts hu
    refine ⟨_, rfl, rfl, _, rfl, ?_⟩
    show (if decide (V.ref b = V.non) = true then _ else _)
    rw [decide_eq_false (by simp)]; refine iteF ?_
    refine ⟨_, rfl, v_ixT hb rfl ?_⟩
    have : sortOf rs n = some r.sort := by unfold sortOf; rw [e]; rfl
    rw [this] at q; exact q

def sp_host_of (K : PySem.W.Frag) : Sp := fun vs H Q _ => ∃ v n rs, vs = [v, oV n] ∧ Rws K H v rs ∧ Q (oV (hostOf rs n)) H
theorem len_host_of (K : PySem.W.Frag) : ∀ vs H Q E, sp_host_of K vs H Q E → vs.length = ["book", "name"].length := by rintro vs H Q E ⟨v, n, rs, rfl, _⟩; rfl
def R_host_of (K : PySem.W.Frag) : TS :=
 (tSeq (tAsg (tCall (sp_row_of K) [] E0 (tCons (tVar 0) (tCons (tVar 1) tNil))) (gName 2))
 (tSeq (tIfS (tOr (tTest (tOp rIsA (tVar 2) (tC .non))) (tTest (tOp (rNeA K) (tOp (rIxA K) (tVar 2) (tC (.int 1))) (tC (.str ("frame" : Str))))))
 (tRet (tC .non)) tNext)
 (tRet (tOp (rIxA K) (tVar 2) (tC (.int 2))))))
theorem rd_host_of (h : sp_host_of K vs H Q E) : R_host_of K { nx := fun _ H' => Q .non H', rt := Q } (start ["book", "name", "row"] vs) H := by
  obtain ⟨v, n, rs, rfl, hR, q⟩ := h
  show R_host_of K _ [some v, some (oV n), none] H
  refine ⟨_, rfl, _, rfl, v, n, rs, rfl, hR, fun e => ?_, fun r u e hu => ?_⟩
  · refine ⟨_, rfl, rfl, _, rfl, ?_⟩
    show Q .non H
    have : hostOf rs n = none := by unfold hostOf; rw [e]; rfl
    rw [this] at q; exact q
  · obtain ⟨b, sv, bv, rfl, hb, _, _⟩ := row_parts hu
    refine ⟨_, rfl, rfl, _, rfl, ?_⟩
    show (if decide (V.ref b = V.non) = true then _ else _)
    rw [decide_eq_false (by simp)]; refine iteF ?_
    refine ⟨_, rfl, v_ixT hb rfl (v_neS ⟨_, rfl, ?_⟩)⟩
    by_cases hs : r.sort = ("frame" : Str)
    · rw [decide_eq_true hs, Bool.not_true]; refine iteF ?_
      refine ⟨_, rfl, v_ixT hb rfl ?_⟩
      have : hostOf rs n = some r.host := by unfold hostOf; rw [e]; show (if r.sort = ("frame" : Str) then some r.host else none) = _; rw [if_pos hs]
      rw [this] at q; exact q
    · rw [decide_eq_false hs, Bool.not_false]; refine iteT ?_
      show Q .non H
      have : hostOf rs n = none := by unfold hostOf; rw [e]; show (if r.sort = ("frame" : Str) then some r.host else none) = _; rw [if_neg hs]
      rw [this] at q; exact q

def sp_frame_of (K : PySem.W.Frag) : Sp := fun vs H Q _ => ∃ v n rs, vs = [v, oV n] ∧ Rws K H v rs ∧ Q (oV (frameOf rs n)) H
theorem len_frame_of (K : PySem.W.Frag) : ∀ vs H Q E, sp_frame_of K vs H Q E → vs.length = ["book", "name"].length := by rintro vs H Q E ⟨v, n, rs, rfl, _⟩; rfl
def R_frame_of (K : PySem.W.Frag) : TS :=
 (tSeq (tFor (iAny K (tVar 0)) (gName 2)
 (tIfS (tAnd (tTest (tOp (rEqA K) (tOp (rIxA K) (tVar 2) (tC (.int 1))) (tC (.str ("frame" : Str))))) (tTest (tOp (rEqA K) (tOp (rIxA K) (tVar 2) (tC (.int 2))) (tVar 1))))
 (tRet (tOp (rIxA K) (tVar 2) (tC (.int 0)))) tNext))
 (tRet (tC .non)))
theorem rd_frame_of (h : sp_frame_of K vs H Q E) : R_frame_of K { nx := fun _ H' => Q .non H', rt := Q } (start ["book", "name", "row"] vs) H := by
  obtain ⟨v, n, rs, rfl, ⟨a, xs, rfl, hq, hd⟩, q⟩ := h
  show R_frame_of K _ [some (.ref a), some (oV n), none] H
  have hlen : xs.length = rs.length := by have := hd.length; simpa using this
  refine ⟨_, rfl, any_for hq (fun i σ H' => H' = H ∧ (∃ w, σ = [some (.ref a), some (oV n), w]) ∧ ∀ r ∈ rs.take i, (decide (r.sort = ("frame" : Str)) && decide (some r.host = n)) = false) ⟨rfl, ⟨_, rfl⟩, by simp⟩ (fun hl i σ H' _ p => p.1 ▸ hl) (fun ht i σ H' _ p => p.1 ▸ ht) ?_ ?_⟩
  · rintro i x σ H' hx ⟨rfl, ⟨w, rfl⟩, hn⟩
    obtain ⟨d, hd1, hd2⟩ := hd.get' hx
    rw [List.getElem?_map] at hd1
    obtain ⟨r, hr, rfl⟩ := Option.map_eq_some_iff.mp hd1
    obtain ⟨b, sv, bv, rfl, hb, hsv, hbv⟩ := row_parts hd2
    refine ⟨_, rfl, v_ixT hb rfl (v_eqS ⟨_, rfl, ?_⟩)⟩
    by_cases hs : r.sort = ("frame" : Str)
    · rw [decide_eq_true hs]; refine iteT ?_
      refine ⟨_, rfl, v_ixT hb rfl ⟨_, rfl, v_eqO ⟨_, rfl, ?_⟩⟩⟩
      by_cases e : some r.host = n
      · rw [decide_eq_true e]; refine iteT ?_
        refine ⟨_, rfl, v_ixT hb rfl ?_⟩
        have : frameOf rs n = some r.name := by
          unfold frameOf
          rw [find_none_snoc hr hn (by rw [decide_eq_true hs, decide_eq_true e]; rfl)]; rfl
        rw [this] at q; exact q
      · rw [decide_eq_false e]; refine iteF ?_
        exact ⟨rfl, ⟨_, rfl⟩, take_all hr hn (by rw [decide_eq_false e, Bool.and_false])⟩
    · rw [decide_eq_false hs]; refine iteF ?_
      refine iteF ?_
      exact ⟨rfl, ⟨_, rfl⟩, take_all hr hn (by rw [decide_eq_false hs, Bool.false_and])⟩
  · rintro σ H' ⟨rfl, ⟨w, rfl⟩, hn⟩
    show Q .non H'
    have : frameOf rs n = none := by
      unfold frameOf
      rw [List.find?_eq_none.mpr]
      · rfl
      · intro r hr
        rw [hlen, List.take_length] at hn
        rw [hn r hr]; exact Bool.false_ne_true
    rw [this] at q; exact q

def ups (rs : List Row) : Nat → Option Str → List Str
  | 0, _ => []
  | k + 1, n => match frameOf rs n with
    | none => []
    | some y => y :: ups rs k (some y)
def Falls (rs : List Row) (rk : Str → Nat) : Prop := ∀ x y, frameOf rs (some x) = some y → rk y < rk x
theorem ups_more {rs : List Row} {rk : Str → Nat} (f : Falls rs rk) : ∀ (k : Nat) (x : Str), rk x ≤ k → ups rs k (some x) = ups rs (rk x) (some x)
  | 0, x, h => by have : rk x = 0 := by omega
                  rw [this]
  | k + 1, x, h => by
    cases e : frameOf rs (some x) with
    | none =>
      have e1 : ups rs (k + 1) (some x) = [] := by rw [ups, e]
      rw [e1]
      cases e2 : rk x with
      | zero => rfl
      | succ m => rw [ups, e]
    | some y =>
      have hy := f x y e
      have e1 : ups rs (k + 1) (some x) = y :: ups rs k (some y) := by rw [ups, e]
      rw [e1, ups_more f k y (by omega)]
      cases e2 : rk x with
      | zero => omega
      | succ m =>
        have e3 : ups rs (m + 1) (some x) = y :: ups rs m (some y) := by rw [ups, e]
        rw [e3, ups_more f m y (by omega)]
theorem ups_cons {rs : List Row} {rk : Str → Nat} (f : Falls rs rk) {x y : Str} (e : frameOf rs (some x) = some y) : ups rs (rk x) (some x) = y :: ups rs (rk y) (some y) := by
  have hy := f x y e
  cases e2 : rk x with
  | zero => omega
  | succ m =>
    have e3 : ups rs (m + 1) (some x) = y :: ups rs m (some y) := by rw [ups, e]
    rw [e3, ups_more f m y (by omega)]
theorem ups_nil {rs : List Row} {k : Nat} {x : Option Str} (e : frameOf rs x = none) : ups rs k x = [] := by
  cases k with
  | zero => rfl
  | succ m => rw [ups, e]

def sp_belongs (K : PySem.W.Frag) : Sp := fun vs H Q _ => ∃ v n g rs rk, vs = [v, .str n, .str g] ∧ Rws K H v rs ∧ Falls rs rk ∧ Q (.bl (decide (g ∈ ups rs (rk n) (some n)))) H
theorem len_belongs (K : PySem.W.Frag) : ∀ vs H Q E, sp_belongs K vs H Q E → vs.length = ["book", "name", "frame"].length := by rintro vs H Q E ⟨v, n, g, rs, rk, rfl, _⟩; rfl
def R_belongs (K : PySem.W.Frag) : TS :=
 (tSeq (tAsg (tCall (sp_frame_of K) [] E0 (tCons (tVar 0) (tCons (tVar 1) tNil))) (gName 3))
 (tSeq (tWhile (tTest (tOp rIsNotA (tVar 3) (tC .non)))
 (tSeq (tIfS (tTest (tOp (rEqA K) (tVar 3) (tVar 2)))
 (tRet (tC (.bl true))) tNext)
 (tAsg (tCall (sp_frame_of K) [] E0 (tCons (tVar 0) (tCons (tVar 3) tNil))) (gName 3))))
 (tRet (tC (.bl false)))))
def upTo (rs : List Row) (rk : Str → Nat) : Option Str → List Str
  | none => []
  | some y => y :: ups rs (rk y) (some y)
theorem ups_upTo {rs : List Row} {rk : Str → Nat} (f : Falls rs rk) (x : Str) : ups rs (rk x) (some x) = upTo rs rk (frameOf rs (some x)) := by
  cases e : frameOf rs (some x) with
  | none => rw [ups_nil e]; rfl
  | some y => rw [ups_cons f e]; rfl
theorem rd_belongs (h : sp_belongs K vs H Q E) : R_belongs K { nx := fun _ H' => Q .non H', rt := Q } (start ["book", "name", "frame", "above"] vs) H := by
  obtain ⟨v, n, g, rs, rk, rfl, hR, f, q⟩ := h
  show R_belongs K _ [some v, some (.str n), some (.str g), none] H
  refine ⟨_, rfl, _, rfl, v, some n, rs, rfl, hR, ?_⟩
  refine while_by (fun σ H' => H' = H ∧ ∃ x, σ = [some v, some (.str n), some (.str g), some (oV x)] ∧ (g ∈ ups rs (rk n) (some n) ↔ g ∈ upTo rs rk x))
    (fun σ _ => match σ with | [_, _, _, some (.str y)] => rk y + 1 | _ => 0) ⟨rfl, frameOf rs (some n), rfl, by rw [ups_upTo f]⟩ ?_ ?_
  · rintro σ H' ⟨rfl, x, rfl, hx⟩
    cases x with
    | none =>
      refine ⟨_, rfl, rfl, _, rfl, ?_⟩
      show Q (.bl false) H'
      have : ¬ g ∈ ups rs (rk n) (some n) := fun z => by have := hx.mp z; simp [upTo] at this
      rw [decide_eq_false this] at q; exact q
    | some y =>
      refine ⟨_, rfl, rfl, _, rfl, ?_⟩
      show (if (!decide (V.str y = V.non)) = true then _ else _)
      rw [decide_eq_false (by simp), Bool.not_false]; refine iteT ?_
      refine ⟨_, rfl, _, rfl, v_eqS ⟨_, rfl, ?_⟩⟩
      by_cases e : y = g
      · rw [decide_eq_true e]; refine iteT ?_
        show Q (.bl true) H'
        have : g ∈ ups rs (rk n) (some n) := hx.mpr (by subst e; simp [upTo])
        rw [decide_eq_true this] at q; exact q
      · rw [decide_eq_false e]; refine iteF ?_
        refine ⟨_, rfl, _, rfl, v, some y, rs, rfl, hR, ?_⟩
        refine ⟨⟨rfl, frameOf rs (some y), rfl, ?_⟩, ?_⟩
        · rw [hx]
          show g ∈ y :: ups rs (rk y) (some y) ↔ _
          rw [ups_upTo f, List.mem_cons]
          exact ⟨fun z => z.resolve_left fun z => e z.symm, Or.inr⟩
        · show (match [some v, some (V.str n), some (V.str g), some (oV (frameOf rs (some y)))] with | [_, _, _, some (.str y)] => rk y + 1 | _ => 0) < rk y + 1
          cases e2 : frameOf rs (some y) with
          | none => exact Nat.succ_pos _
          | some z => have := f y z e2; show rk z + 1 < rk y + 1; omega
  · rintro σ H' Q1 Q2 hQ ⟨v1, e1, e2, k, e3, q1⟩
    exact ⟨v1, e1, e2, k, e3, hQ _ _ q1⟩
end My

namespace My
open PySem L2
variable {K : PySem.W.Frag} {vs : List V} {H : Hp} {Q : VK} {E : XK}

def sp__law_cell_at (K : PySem.W.Frag) : Sp := fun vs H Q _ => ∃ (a : Addr) (ns : List Int) (k : Int), vs = [.ref a, .int k] ∧ SqL K H a (ns.map V.int) ∧ 0 ≤ k ∧ ∀ n : Int, Q (.int n) H
theorem len__law_cell_at (K : PySem.W.Frag) : ∀ vs H Q E, sp__law_cell_at K vs H Q E → vs.length = ["_law_script", "_law_k"].length := by rintro vs H Q E ⟨v, n, rs, rfl, _⟩; rfl
def R__law_cell_at (K : PySem.W.Frag) : TS :=
 (tSeq (tIfS (tTest (tOp rLtA (tVar 1) (tCB (rLenA K) (tCons (tVar 0) tNil))))
 (tRet (tOp (rIxA K) (tVar 0) (tVar 1))) tNext)
 (tRet (tC (.int 0))))
theorem rd__law_cell_at (h : sp__law_cell_at K vs H Q E) : R__law_cell_at K { nx := fun _ H' => Q .non H', rt := Q } (start ["_law_script", "_law_k"] vs) H := by
  obtain ⟨a, ns, k, rfl, hS, h0, q⟩ := h
  show R__law_cell_at K _ [some (.ref a), some (.int k)] H
  unfold R__law_cell_at
  walk_at "step"
  refine v_lenQ (.inl hS) ?_
  walk_at "step"
  rw [List.length_map]
  by_cases hk : k < (ns.length : Int)
  · rw [decide_eq_true hk]; refine iteT ?_
    have hk' : k.toNat < ns.length := by omega
    walk_at "step"
    refine v_ixL hS (v := .int ns[k.toNat]) ?_ (q _)
    have ek : k = ((k.toNat : Nat) : Int) := by omega
    have e : atI (ns.map V.int) ((k.toNat : Nat) : Int) = some (.int ns[k.toNat]) := atI_nat (by rw [List.getElem?_map, List.getElem?_eq_getElem hk'] <;> rfl)
    rw [← ek] at e
    exact e
  · rw [decide_eq_false hk]; refine iteF ?_
    exact q 0

/-- some of these texts, rising -/
structure SomeOf (ys xs : List Str) : Prop where
  sub : ∃ zs, zs.Sublist xs ∧ ys.Perm zs
  rise : PyProof.Rows.sortedS ys = true
theorem SomeOf.mem {ys xs : List Str} (h : SomeOf ys xs) {y : Str} (hy : y ∈ ys) : y ∈ xs := by
  obtain ⟨zs, s, p⟩ := h.sub
  exact s.subset (p.mem_iff.mp hy)
theorem strV_get {xs : List Str} {i : Nat} {x : V} (h : (strV xs)[i]? = some x) : ∃ y, xs[i]? = some y ∧ x = .str y := by
  unfold strV at h
  rw [List.getElem?_map] at h
  obtain ⟨y, hy, e⟩ := Option.map_eq_some_iff.mp h
  exact ⟨y, hy, e.symm⟩
theorem strV_len (xs : List Str) : (strV xs).length = xs.length := List.length_map _
end My

namespace My
open PySem L2
def ch (c : Nat) : Str := ⟨#[c]⟩
def Lt : Str := "abcdefghijklmnopqrstuvwxyz"
theorem lt_get : ∀ j : Nat, j < 26 → Lt.cps.toList[j]? = some (97 + j) := by decide +kernel
theorem lt_len : Lt.length = 26 := by decide +kernel
theorem lt_at {i : Int} (h0 : 0 ≤ i) (h1 : i < 26) : atI Lt.cps.toList i = some (97 + i.toNat) := by
  have e : i = ((i.toNat : Nat) : Int) := by omega
  have q : atI Lt.cps.toList ((i.toNat : Nat) : Int) = some (97 + i.toNat) := atI_nat (lt_get _ (by omega))
  rw [← e] at q
  exact q
theorem join_ch : ∀ bs : List Nat, (PySem.Txt.join ("" : Str) (bs.map ch)).cps.toList = bs := by
  intro bs
  have e : PySem.Txt.join ("" : Str) (bs.map ch) = Str.join ("" : Str) (bs.map ch) := PySem.StrLaws.glued_eq_join _ _
  rw [e]
  induction bs with
  | nil => rfl
  | cons b r ih =>
    cases r with
    | nil => rfl
    | cons c r =>
      show ((ch b ++ ("" : Str) ++ Str.join ("" : Str) ((c :: r).map ch)).cps).toList = _
      have ih := ih (PySem.StrLaws.glued_eq_join _ _)
      show ((ch b).cps ++ ("" : Str).cps ++ (Str.join ("" : Str) ((c :: r).map ch)).cps).toList = _
      rw [Array.toList_append, Array.toList_append, ih]
      rfl
theorem mul_ch {c : Nat} {n : Int} (h : 1 ≤ n) : (PySem.Txt.mul (ch c) n).cps.toList = List.replicate n.toNat c := by
  unfold PySem.Txt.mul
  rw [if_neg (by omega)]
  have f : ∀ (k : Nat) (acc : Array Nat), ((List.replicate k #[c]).foldl (· ++ ·) acc).toList = acc.toList ++ List.replicate k c := by
    intro k
    induction k with
    | zero => intro acc; simp
    | succ k ih => intro acc; rw [List.replicate_succ, List.foldl_cons, ih]; simp [List.replicate_succ]
  by_cases h1 : n = 1
  · subst h1; rfl
  · have e : (n == 1 || (ch c).length == 0) = false := by
      have : (n == 1) = false := by simpa using h1
      rw [this]; rfl
    rw [e, if_neg Bool.false_ne_true]
    have := f n.toNat #[]
    show (List.foldl (fun x1 x2 => x1 ++ x2) #[] (List.replicate n.toNat #[c])).toList = _
    simpa using this
end My

namespace My
open PySem L2
variable {K : PySem.W.Frag} {vs : List V} {H : Hp} {Q : VK} {E : XK}

theorem sl64 {n : Nat} (h : n ≤ 100000) : n ≤ sizeLine := by rw [sizeLine_eq]; omega
theorem Same.tr {H H1 H2 : Hp} (a : Same H H1) (b : Same H1 H2) : Same H H2 := fun c o e => b c o (a c o e)
theorem Same.put {H H1 : Hp} {p : Addr} (s : Same H H1) (h : H p = none) (o : HO) : Same H (upd H1 p o) := fun b u e => by
  have nb : b ≠ p := fun z => by rw [z, h] at e; cases e
  rw [upd_ne nb]; exact s b u e
theorem tupK_lst {d : Addr} {xs ys : List V} (h : H d = some (.lst xs)) : TupK H (upd H d (.lst ys)) :=
  ⟨fun b zs e => by rw [upd_ne (fun z => by rw [z, h] at e; cases e)]; exact e, fun b o zs e => by rw [upd_ne (fun z => by rw [z, h] at e; cases e)]; exact e⟩
theorem ne_free {H : Hp} {a b : Addr} {o : HO} (h : H a = some o) (g : H b = none) : a ≠ b := fun e => by rw [e, g] at h; cases h
theorem flat_strV (xs : List Str) : (strV xs).all flatV = true := by unfold strV; rw [List.all_map]; exact List.all_eq_true.mpr fun _ _ => rfl
theorem inV_strV (x : Str) : ∀ xs : List Str, inV (.str x) (strV xs) = decide (x ∈ xs)
  | [] => by simp [strV, inV]
  | y :: ys => by
    have ih := inV_strV x ys
    unfold inV at ih ⊢
    show (eqV (.str y) (.str x) || (strV ys).any fun z => eqV z (.str x)) = _
    rw [ih]
    by_cases e : x = y
    · subst e; simp [eqV]
    · have e' : ¬ y = x := fun z => e z.symm
      simp [eqV, e, e']
def intV (ns : List Int) : List V := ns.map V.int
theorem intV_len (ns : List Int) : (intV ns).length = ns.length := List.length_map _
theorem intV_app (ns : List Int) (x : Int) : intV ns ++ [V.int x] = intV (ns ++ [x]) := by simp [intV]
theorem sub_len {α : Type} [BEq α] [LawfulBEq α] : ∀ {l m : List α}, l.Nodup → (∀ x ∈ l, x ∈ m) → l.length ≤ m.length
  | [], _, _, _ => Nat.zero_le _
  | x :: l, m, hn, hs => by
    rw [List.nodup_cons] at hn
    have hm := hs x (by simp)
    have h2 : ∀ y ∈ l, y ∈ m.erase x := fun y hy => (List.mem_erase_of_ne (fun e => hn.1 (by rw [← e]; exact hy))).mpr (hs y (by simp [hy]))
    have := sub_len hn.2 h2
    have e := List.length_erase_of_mem hm
    have hp := List.length_pos_of_mem hm
    rw [List.length_cons]; omega
def sp__law_mixed (K : PySem.W.Frag) : Sp := fun vs H Q _ => ∃ c k : Int, vs = [.int c, .int k] ∧ 0 ≤ k ∧ k ≤ 1000 ∧ ∀ n : Int, 0 ≤ n → Q (.int n) H
theorem len__law_mixed (K : PySem.W.Frag) : ∀ vs H Q E, sp__law_mixed K vs H Q E → vs.length = ["_law_cell", "_law_k"].length := by rintro vs H Q E ⟨c, k, rfl, _⟩; rfl
def R__law_mixed (K : PySem.W.Frag) : TS :=
 (tSeq (tAsg (tOp (rI CDiv fun i j => .int (i / j)) (tVar 0) (tC (.int 2))) (gName 2))
 (tSeq (tIfS (tTest (tOp (rEqA K) (tOp (rI (fun _ j => 0 < j) fun i j => .int (i % j)) (tVar 0) (tC (.int 2))) (tC (.int 0))))
 (tRet (tOp (rI (fun _ j => 0 < j) fun i j => .int (i % j)) (tOp (rI (fun _ j => 0 ≤ j) fun i j => .int (i / 2 ^ j.toNat)) (tVar 2) (tOp rMulA (tC (.int 64)) (tVar 1))) (tOp (rI CPow fun i j => .int (i * 2 ^ j.toNat)) (tC (.int 1)) (tC (.int 64))))) tNext)
 (tSeq (tAsg (tOp (rAddA K) (tOp (rI (fun _ j => 0 < j) fun i j => .int (i % j)) (tVar 2) (tC (.int 2147483647))) (tOp rMulA (tC (.int 48271)) (tOp (rAddA K) (tVar 1) (tC (.int 1))))) (gName 3))
 (tSeq (tAsg (tOp (rI (fun _ j => 0 < j) fun i j => .int (i % j)) (tOp (rAddA K) (tOp rMulA (tVar 3) (tVar 3)) (tOp rMulA (tC (.int 69621)) (tVar 1))) (tC (.int 2147483647))) (gName 3))
 (tRet (tOp (rI (fun _ j => 0 < j) fun i j => .int (i % j)) (tOp (rAddA K) (tOp (rAddA K) (tOp rMulA (tVar 3) (tVar 3)) (tOp rMulA (tC (.int 16807)) (tVar 1))) (tC (.int 1))) (tC (.int 2147483629))))))))
theorem rd__law_mixed (h : sp__law_mixed K vs H Q E) : R__law_mixed K { nx := fun _ H' => Q .non H', rt := Q } (start ["_law_cell", "_law_k", "_law_half", "_law_number"] vs) H := by
  obtain ⟨c, k, rfl, hk0, hk1, q⟩ := h
  show R__law_mixed K _ [some (.int c), some (.int k), none, none] H
  unfold R__law_mixed
  walk_at "step"
  by_cases hc : c % 2 = 0
  · rw [decide_eq_true hc]; refine iteT ?_
    walk_at "step"
    refine v_mulI (.inl ⟨by decide, by decide⟩) ?_
    refine v_shr (by omega) ?_
    walk_at "step"
    refine v_shl ⟨by decide, by decide, by decide⟩ ?_
    refine v_mod (by decide) ?_
    exact q _ (Int.emod_nonneg _ (by decide))
  · rw [decide_eq_false hc]; refine iteF ?_
    walk_at "step"
    refine v_mulI (.inl ⟨by decide, by decide⟩) ?_
    walk_at "step"
    have a0 := Int.emod_nonneg (c / 2) (show (2147483647 : Int) ≠ 0 by decide)
    have a1 := Int.emod_lt_of_pos (c / 2) (show (0 : Int) < 2147483647 by decide)
    generalize hm : c / 2 % 2147483647 + 48271 * (k + 1) = m at *
    refine v_mulI (.inl ⟨by omega, by omega⟩) ?_
    walk_at "step"
    refine v_mulI (.inl ⟨by decide, by decide⟩) ?_
    walk_at "step"
    have b0 := Int.emod_nonneg (m * m + 69621 * k) (show (2147483647 : Int) ≠ 0 by decide)
    have b1 := Int.emod_lt_of_pos (m * m + 69621 * k) (show (0 : Int) < 2147483647 by decide)
    generalize hm2 : (m * m + 69621 * k) % 2147483647 = m2 at *
    refine v_mulI (.inl ⟨by omega, by omega⟩) ?_
    walk_at "step"
    refine v_mulI (.inl ⟨by decide, by decide⟩) ?_
    walk_at "step"
    exact q _ (Int.emod_nonneg _ (by decide))

/-- signs by their numbers -/
def Sg (ns : List Int) : Prop := (∀ x ∈ ns, 0 ≤ x ∧ x < 26) ∧ 1 ≤ ns.length ∧ ns.length ≤ 8
def sp__law_letters (K : PySem.W.Frag) : Sp := fun vs H Q _ => ∃ n : Int, vs = [.int n] ∧ ∀ (p : Addr) (ns : List Int) (H' : Hp), Same H H' → H p = none → H' p = some (.lst (intV ns)) → Sg ns → Q (.ref p) H'
theorem len__law_letters (K : PySem.W.Frag) : ∀ vs H Q E, sp__law_letters K vs H Q E → vs.length = ["_law_number"].length := by rintro vs H Q E ⟨n, rfl, _⟩; rfl
def R__law_letters (K : PySem.W.Frag) : TS :=
 (tSeq (tAsg (tLst tNil) (gName 1))
 (tSeq (tAsg (tOp (rAddA K) (tC (.int 1)) (tOp (rI (fun _ j => 0 < j) fun i j => .int (i % j)) (tVar 0) (tC (.int 8)))) (gName 2))
 (tSeq (tAsg (tOp (rI CDiv fun i j => .int (i / j)) (tVar 0) (tC (.int 8))) (gName 0))
 (tSeq (tFor (iRng1 (tCons (tVar 2) tNil)) (gName 3)
 (tSeq (tDrop (tBM K "list" rAppend (tVar 1) (tCons (tOp (rI (fun _ j => 0 < j) fun i j => .int (i % j)) (tVar 0) (tC (.int 26))) tNil)))
 (tAsg (tOp (rI CDiv fun i j => .int (i / j)) (tVar 0) (tC (.int 26))) (gName 0))))
 (tRet (tVar 1))))))
theorem rd__law_letters (h : sp__law_letters K vs H Q E) : R__law_letters K { nx := fun _ H' => Q .non H', rt := Q } (start ["_law_number", "_law_signs", "_law_width", "_law_j"] vs) H := by
  obtain ⟨n, rfl, q⟩ := h
  show R__law_letters K _ [some (.int n), none, none, none] H
  unfold R__law_letters
  walk_at "step"
  refine ⟨sl64 (by simp), fun d hd => ?_⟩
  walk_at "step"
  have a0 := Int.emod_nonneg n (show (8 : Int) ≠ 0 by decide)
  have a1 := Int.emod_lt_of_pos n (show (0 : Int) < 8 by decide)
  generalize hm : (1 : Int) + n % 8 = m at *
  refine rng1_for (by omega) (by omega) (fun i σ H' => ∃ (y : Int) (a : Option V) (ns : List Int), σ = [some (.int y), some (.ref d), some (.int m), a] ∧ Same H H' ∧ H' d = some (.lst (intV ns)) ∧ ns.length = i ∧ ∀ x ∈ ns, 0 ≤ x ∧ x < 26) ⟨_, none, [], rfl, Same.new hd _, upd_same, rfl, by simp⟩ ?_ ?_
  · rintro i σ H' hi ⟨y, a, ns, rfl, s1, h1, hl, hns⟩
    walk_at "step"
    refine ⟨.inl ⟨rfl, _, SqL.of h1⟩, ?_⟩
    walk_at "step"
    refine v_append h1 (by rw [intV_len, sizeLine_eq]; omega) ?_
    walk_at "step"
    refine ⟨_, _, ns ++ [y % 26], rfl, Same.put s1 hd _, by rw [← intV_app]; exact upd_same, by simp [hl], fun x hx => ?_⟩
    rcases List.mem_append.mp hx with h | h
    · exact hns x h
    · rw [List.mem_singleton.mp h]; exact ⟨Int.emod_nonneg _ (by decide), Int.emod_lt_of_pos _ (by decide)⟩
  · rintro σ H' ⟨y, a, ns, rfl, s1, h1, hl, hns⟩
    walk_at "step"
    exact q d ns H' s1 hd h1 ⟨hns, by omega, by omega⟩

def namesT2 (K : PySem.W.Frag) : TS :=
 (tSeq (tAsg (tBM K "str" (rJoin K) (tC (.str ("" : Str))) (tCons (tComp [some 1, none] (iAny K (tVar 4)) (gName 1) tTT (tOp (rIxA K) (tVar 0) (tVar 1))) tNil)) (gName 5))
 (tSeq (tAsg (tComp [some 2, none] (iStr (tVar 1)) (gName 1) (tTest (tOp (rInB K true) (tOp rMulA (tVar 1) (tC (.int 8))) (tVar 0))) (tOp rMulA (tVar 1) (tC (.int 8)))) (gName 6))
 (tDrop (tBM K "list" rAppend (tVar 2) (tCons (tOp (rIxA K) (tLst (tCons (tVar 5) (tCons (tOp (rIxA K) (tVar 6) (tC (.int 0))) tNil))) (tCB rIntA (tCons (tOp (rInB K false) (tVar 5) (tOp (rAddA K) (tVar 2) (tLst (tCons (tC (.str ("bars" : Str))) (tCons (tC (.str ("shuts" : Str))) tNil))))) tNil))) tNil)))))
def namesT1 (K : PySem.W.Frag) : TS :=
 (tSeq (tIfS (tTest (tOp (rEqA K) (tOp (rI (fun _ j => 0 < j) fun i j => .int (i % j)) (tVar 0) (tC (.int 4))) (tC (.int 3))))
 (tSeq (tAsg (tSl (rSlA K) (tCall (sp__law_letters K) [] E0 (tCons (tOp (rAddA K) (tC (.int 7)) (tOp rMulA (tC (.int 8)) (tCall (sp__law_mixed K) [] E0 (tCons (tVar 0) (tCons (tC (.int 2)) tNil))))) tNil)) tNoPart (tPart (tOp (rAddA K) (tOp (rI (fun _ j => 0 < j) fun i j => .int (i % j)) (tVar 3) (tC (.int 8))) (tC (.int 1))))) (gName 4))
 (tAsg (tOp (rI (fun _ j => 0 < j) fun i j => .int (i % j)) (tOp (rAddA K) (tOp (rIxA K) (tVar 4) (tC (.int 0))) (tCB rIntA (tCons (tOp rGtA (tVar 3) (tC (.int 7))) tNil))) (tC (.int 26))) (gSub (tVar 4) (tC (.int 0)) rSetA))) tNext)
 (namesT2 K))

/-- the names so far -/
structure Nms (names : List Str) : Prop where
  nd : names.Nodup
  ne : ∀ x ∈ names, x ≠ ("" : Str)
  le : ∀ x ∈ names, x.length ≤ 8
theorem mul8_ne (c : Nat) : PySem.Txt.mul (ch c) 8 ≠ ("" : Str) := fun e => by
  have h1 : (PySem.Txt.mul (ch c) 8).cps.toList = List.replicate 8 c := mul_ch (by decide)
  rw [e] at h1
  cases h1
theorem mul8_inj {c d : Nat} (e : PySem.Txt.mul (ch c) 8 = PySem.Txt.mul (ch d) 8) : c = d := by
  have h1 : (PySem.Txt.mul (ch c) 8).cps.toList = List.replicate 8 c := mul_ch (by decide)
  have h2 : (PySem.Txt.mul (ch d) 8).cps.toList = List.replicate 8 d := mul_ch (by decide)
  rw [e, h2] at h1
  injection h1 with h1
  exact h1.symm
def spares (names : List Str) (cs : List Nat) : List Str := (cs.map fun c => PySem.Txt.mul (ch c) 8).filter fun x => !decide (x ∈ names)
theorem lt_nodup : Lt.cps.toList.Nodup := by decide +kernel
theorem nodup_map_inj {α β : Type} {f : α → β} (hf : ∀ x y, f x = f y → x = y) : ∀ {l : List α}, l.Nodup → (l.map f).Nodup
  | [], _ => by simp
  | x :: l, h => by
    rw [List.nodup_cons] at h
    rw [List.map_cons, List.nodup_cons]
    refine ⟨fun hm => ?_, nodup_map_inj hf h.2⟩
    obtain ⟨y, hy, e⟩ := List.mem_map.mp hm
    exact h.1 (by rw [← hf _ _ e]; exact hy)
theorem spares_ne {names : List Str} (h : names.length < 26) : spares names Lt.cps.toList ≠ [] := fun e => by
  unfold spares at e
  rw [List.filter_eq_nil_iff] at e
  have hs : ∀ x ∈ Lt.cps.toList.map (fun c => PySem.Txt.mul (ch c) 8), x ∈ names := fun x hx => by
    have := e x hx
    simpa using this
  have := sub_len (nodup_map_inj (fun _ _ => mul8_inj) lt_nodup) hs
  rw [List.length_map] at this
  have l26 : Lt.cps.toList.length = 26 := by decide +kernel
  omega
/-- the text of some signs -/
def wrd (ns : List Int) : Str := PySem.Txt.join ("" : Str) (ns.map fun x => ch (97 + x.toNat))
theorem wrd_ne {ns : List Int} (h : 1 ≤ ns.length) : wrd ns ≠ ("" : Str) := fun e => by
  have e2 : (wrd ns).cps.toList = ns.map fun x => 97 + x.toNat := by
    unfold wrd
    have := join_ch (ns.map fun x => 97 + x.toNat)
    rw [List.map_map] at this
    exact this
  rw [e] at e2
  cases ns with
  | nil => simp at h
  | cons x l => cases e2
theorem mul_len8 (c : Nat) : (PySem.Txt.mul (ch c) 8).length = 8 := by
  show (PySem.Txt.mul (ch c) 8).cps.size = 8
  rw [← Array.length_toList, mul_ch (by decide)]; rfl
theorem wrd_len {ns : List Int} : (wrd ns).length = ns.length := by
  show (wrd ns).cps.size = _
  rw [← Array.length_toList]
  unfold wrd
  have := join_ch (ns.map fun x => 97 + x.toNat)
  rw [List.map_map] at this
  rw [show (PySem.Txt.join ("" : Str) (ns.map fun x => ch (97 + x.toNat))).cps.toList = _ from this, List.length_map]
theorem names_tail2 {D : Ends} {c : Int} {d p : Addr} {k : Nat} {names : List Str} {ns : List Int} {H0 : Hp} {a5 a6 : Option V} (s0 : Same H0 H) (hd0 : H0 d = none) (hd : H d = some (.lst (strV names))) (hp : H p = some (.lst (intV ns))) (hS : Sg ns) (hN : Nms names) (hl : names.length < 12)
    (q : ∀ (x : Str) (b1 b2 : Option V) (H' : Hp), Same H0 H' → H' d = some (.lst (strV (names ++ [x]))) → Nms (names ++ [x]) → D.nx [some (.int c), some (.str Lt), some (.ref d), some (.int k), some (.ref p), b1, b2] H') :
    namesT2 K D [some (.int c), some (.str Lt), some (.ref d), some (.int k), some (.ref p), a5, a6] H := by
  unfold namesT2
  walk_at "step"
  refine ⟨rfl, ?_⟩
  walk_at "step"
  refine any_compL (xs := intV ns) (SqL.of hp) (fun i ys H' => H' = H ∧ ys = strV ((ns.take i).map fun x => ch (97 + x.toNat))) ⟨rfl, rfl⟩ ?_ ?_ ?_ ?_
  · rintro i ys H' hi ⟨rfl, rfl⟩
    rw [strV_len, List.length_map, List.length_take]
    have := hS.2.2
    exact sl64 (by omega)
  · rintro i ys H' hi ⟨rfl, rfl⟩
    exact SqL.of hp
  · rintro i x ys H' hx ⟨rfl, rfl⟩
    unfold intV at hx
    rw [List.getElem?_map] at hx
    obtain ⟨y, hy, rfl⟩ := Option.map_eq_some_iff.mp hx
    obtain ⟨y0, y1⟩ := hS.1 y (List.mem_of_getElem? hy)
    walk_at "step"
    refine v_ixS (sl64 (by rw [lt_len]; decide)) (lt_at y0 y1) ?_
    refine ⟨rfl, ?_⟩
    rw [List.take_add_one, hy]
    simp [strV, ch]
  · rintro ys H' ⟨rfl, rfl⟩ l hl'
    rw [intV_len, List.take_length]
    walk_at "step"
    refine ⟨"", l, ns.map fun x => ch (97 + x.toNat), rfl, rfl, .inl (SqL.of upd_same), ?_, ?_⟩
    · rw [List.map_map, show ("" : Str).length = 0 from rfl, Nat.mul_zero, Nat.add_zero]
      have : (ns.map ((fun x => x.length) ∘ fun x => ch (97 + x.toNat))).sum = ns.length := by
        clear hp hS hl' q hd
        induction ns with
        | nil => rfl
        | cons x l ih => rw [List.map_cons, List.sum_cons, ih, List.length_cons]; show 1 + _ = _; omega
      rw [this]
      have := hS.2.2
      omega
    have e1 : PySem.Txt.join ("" : Str) (ns.map fun x => ch (97 + x.toNat)) = wrd ns := rfl
    rw [e1]
    walk_at "step"
    have hd1 : (upd H' l (.lst (strV (ns.map fun x => ch (97 + x.toNat))))) d = some (.lst (strV names)) := by rw [upd_ne (ne_free hd hl')]; exact hd
    have s1 : Same H0 (upd H' l (.lst (strV (ns.map fun x => ch (97 + x.toNat))))) := Same.tr s0 (Same.new hl' _)
    generalize upd H' l (.lst (strV (ns.map fun x => ch (97 + x.toNat)))) = H1 at *
    refine str_comp (z := Lt) (fun i ys H' => H' = H1 ∧ ys = strV (spares names (Lt.cps.toList.take i))) ⟨rfl, rfl⟩ ?_ ?_ ?_
    · rintro i ys H' hi ⟨rfl, rfl⟩
      rw [strV_len]
      have h1 : (spares names (Lt.cps.toList.take i)).length ≤ 26 := by
        unfold spares
        refine Nat.le_trans (List.length_filter_le _ _) ?_
        rw [List.length_map, List.length_take]
        have l26 : Lt.cps.toList.length = 26 := by decide +kernel
        omega
      exact sl64 (by omega)
    · rintro i e ys H' he ⟨rfl, rfl⟩
      have hsp : spares names (Lt.cps.toList.take (i + 1)) = spares names (Lt.cps.toList.take i) ++ (if PySem.Txt.mul (ch e) 8 ∈ names then [] else [PySem.Txt.mul (ch e) 8]) := by
        unfold spares
        rw [List.take_add_one, he, List.map_append, List.filter_append]
        congr 1
        by_cases hm : PySem.Txt.mul (ch e) 8 ∈ names <;> simp [hm]
      walk_at "step"
      refine v_mulS (by decide) (by decide) (show (1 : Nat) ≤ 1000 by decide) ?_
      walk_at "step"
      refine .inl (v_notin (.inl (SqL.of hd1)) rfl (flat_strV _) ?_)
      rw [inV_strV]
      walk_at "step"
      by_cases hm : PySem.Txt.mul (ch e) 8 ∈ names
      · rw [show (⟨#[e]⟩ : Str) = ch e from rfl, decide_eq_true hm]
        refine iteF ?_
        refine ⟨rfl, ?_⟩
        rw [hsp, if_pos hm, List.append_nil]
      · rw [show (⟨#[e]⟩ : Str) = ch e from rfl, decide_eq_false hm]
        refine iteT ?_
        walk_at "step"
        refine v_mulS (by decide) (by decide) (show (1 : Nat) ≤ 1000 by decide) ?_
        refine ⟨rfl, ?_⟩
        rw [hsp, if_neg hm]; simp [strV]
    rintro ys H' ⟨rfl, rfl⟩ t ht
    have hls : Lt.cps.toList.take Lt.cps.size = Lt.cps.toList := List.take_of_length_le (by rw [Array.length_toList]; exact Nat.le_refl _)
    rw [hls]
    have hne := spares_ne (names := names) (by omega)
    obtain ⟨x0, xr, hx0⟩ : ∃ x r, spares names Lt.cps.toList = x :: r := by
      cases h : spares names Lt.cps.toList with
      | nil => exact absurd h hne
      | cons x r => exact ⟨x, r, rfl⟩
    have hx0m : x0 ∈ spares names Lt.cps.toList := by rw [hx0]; simp
    unfold spares at hx0m
    rw [List.mem_filter] at hx0m
    have hx0n : x0 ∉ names := by simpa using hx0m.2
    have hx0e : x0 ≠ ("" : Str) := by
      obtain ⟨e, _, he⟩ := List.mem_map.mp hx0m.1
      rw [← he]; exact mul8_ne e
    have hx0l : x0.length ≤ 8 := by
      obtain ⟨e, _, he⟩ := List.mem_map.mp hx0m.1
      rw [← he, mul_len8]; exact Nat.le_refl _
    rw [hx0]
    walk_at "step"
    have hd2 : (upd H' t (.lst (strV (x0 :: xr)))) d = some (.lst (strV names)) := by rw [upd_ne (ne_free hd1 ht)]; exact hd1
    refine ⟨.inl ⟨rfl, _, SqL.of hd2⟩, ?_⟩
    walk_at "step"
    refine v_ixL (SqL.of upd_same) (v := .str x0) (atI_nat (j := 0) rfl) ?_
    walk_at "step"
    refine ⟨sl64 (by simp), fun t2 ht2 => ?_⟩
    walk_at "step"
    refine ⟨sl64 (by simp), fun t3 ht3 => ?_⟩
    walk_at "step"
    have n32 : t3 ≠ t2 := fun e => by rw [e, upd_same] at ht3; cases ht3
    have hd3 : (upd (upd (upd H' t (.lst (strV (x0 :: xr)))) t2 (.lst [.str (wrd ns), .str x0])) t3 (.lst [.str ("bars" : Str), .str ("shuts" : Str)])) d = some (.lst (strV names)) := by
      rw [upd_ne (ne_free (by rw [upd_ne (ne_free hd2 ht2)]; exact hd2) ht3), upd_ne (ne_free hd2 ht2)]; exact hd2
    refine v_cat hd3 upd_same (by rw [strV_len]; exact sl64 (by simp; omega)) fun t4 ht4 => ?_
    have ex : strV names ++ [V.str ("bars" : Str), V.str ("shuts" : Str)] = strV (names ++ [("bars" : Str), ("shuts" : Str)]) := by simp [strV]
    refine .inl (v_in (.inl (SqL.of upd_same)) rfl (by rw [ex]; exact flat_strV _) ?_)
    rw [ex, inV_strV]
    walk_at "step"
    have n42 : t2 ≠ t4 := fun e => by rw [← e, upd_ne n32.symm, upd_same] at ht4; cases ht4
    have hd4 : (upd (upd (upd (upd H' t (.lst (strV (x0 :: xr)))) t2 (.lst [.str (wrd ns), .str x0])) t3 (.lst [.str ("bars" : Str), .str ("shuts" : Str)])) t4 (.lst (strV (names ++ [("bars" : Str), ("shuts" : Str)])))) d = some (.lst (strV names)) := by
      rw [upd_ne (ne_free hd3 ht4)]; exact hd3
    have hq2 : (upd (upd (upd (upd H' t (.lst (strV (x0 :: xr)))) t2 (.lst [.str (wrd ns), .str x0])) t3 (.lst [.str ("bars" : Str), .str ("shuts" : Str)])) t4 (.lst (strV (names ++ [("bars" : Str), ("shuts" : Str)])))) t2 = some (.lst [.str (wrd ns), .str x0]) := by
      rw [upd_ne n42, upd_ne n32.symm]; exact upd_same
    have s4 : Same H0 (upd (upd (upd (upd H' t (.lst (strV (x0 :: xr)))) t2 (.lst [.str (wrd ns), .str x0])) t3 (.lst [.str ("bars" : Str), .str ("shuts" : Str)])) t4 (.lst (strV (names ++ [("bars" : Str), ("shuts" : Str)])))) :=
      Same.tr s1 (Same.tr (Same.new ht _) (Same.tr (Same.new ht2 _) (Same.tr (Same.new ht3 _) (Same.new ht4 _))))
    generalize (upd (upd (upd (upd H' t (.lst (strV (x0 :: xr)))) t2 (.lst [.str (wrd ns), .str x0])) t3 (.lst [.str ("bars" : Str), .str ("shuts" : Str)])) t4 (.lst (strV (names ++ [("bars" : Str), ("shuts" : Str)])))) = H4 at *
    have app : ∀ x : Str, x ∉ names → x ≠ ("" : Str) → x.length ≤ 8 → Nms (names ++ [x]) := fun x hx hxe hxl => ⟨by
      rw [List.nodup_append]; refine ⟨hN.nd, by simp, ?_⟩
      intro a ha b hb e
      rw [List.mem_singleton.mp hb] at e
      exact hx (e ▸ ha), fun y hy => by
      rcases List.mem_append.mp hy with h | h
      · exact hN.ne y h
      · rw [List.mem_singleton.mp h]; exact hxe, fun y hy => by
      rcases List.mem_append.mp hy with h | h
      · exact hN.le y h
      · rw [List.mem_singleton.mp h]; exact hxl⟩
    have fin : ∀ x : Str, x ∉ names → x ≠ ("" : Str) → x.length ≤ 8 → rAppend (.ref d) [.str x] H4 (fun _ H1 => D.nx [some (.int c), some (.str Lt), some (.ref d), some (.int k), some (.ref p), some (.str (wrd ns)), some (.ref t)] H1) := fun x hx hxe hxl => by
      refine v_append hd4 (by rw [strV_len, sizeLine_eq]; omega) ?_
      exact q x _ _ _ (Same.put s4 hd0 _) (by rw [show strV (names ++ [x]) = strV names ++ [V.str x] by simp [strV]]; exact upd_same) (app x hx hxe hxl)
    by_cases hm : wrd ns ∈ names ++ [("bars" : Str), ("shuts" : Str)]
    · rw [decide_eq_true hm]
      refine .inr ⟨true, rfl, ?_⟩
      refine v_ixL (SqL.of hq2) (v := .str x0) (atI_nat (j := 1) rfl) ?_
      walk_at "step"
      exact fin x0 hx0n hx0e hx0l
    · rw [decide_eq_false hm]
      refine .inr ⟨false, rfl, ?_⟩
      refine v_ixL (SqL.of hq2) (v := .str (wrd ns)) (atI_nat (j := 0) rfl) ?_
      walk_at "step"
      exact fin _ (fun h => hm (List.mem_append_left _ h)) (wrd_ne hS.2.1) (by rw [wrd_len]; exact hS.2.2)

theorem Sg.set {ns : List Int} (h : Sg ns) (i : Nat) {x : Int} (h0 : 0 ≤ x) (h1 : x < 26) : Sg (ns.set i x) := by
  refine ⟨fun y hy => ?_, by rw [List.length_set]; exact h.2.1, by rw [List.length_set]; exact h.2.2⟩
  rcases List.mem_or_eq_of_mem_set hy with h' | h'
  · exact h.1 y h'
  · rw [h']; exact ⟨h0, h1⟩
theorem intV_set (ns : List Int) (i : Nat) (x : Int) : (intV ns).set i (.int x) = intV (ns.set i x) := by unfold intV; rw [List.map_set]
theorem intV_at {ns : List Int} {i : Nat} (h : i < ns.length) : (intV ns)[i]? = some (.int ns[i]) := by unfold intV; rw [List.getElem?_map, List.getElem?_eq_getElem h]; rfl
theorem ixN_last {n : Nat} (h : 1 ≤ n) : ixN n (-1) = some (n - 1) := by
  unfold ixN
  rw [if_neg (by decide), if_pos (by omega)]
  congr 1
  omega
theorem atI_end {xs : List V} {v : V} (h : 1 ≤ xs.length) (e : xs[xs.length - 1]? = some v) : atI xs (-1) = some v := by
  unfold atI
  rw [ixN_last h]; exact e
theorem ixN_0 {n : Nat} (h : 1 ≤ n) : ixN n 0 = some 0 := by
  unfold ixN
  rw [if_pos (by decide), if_pos (by omega)]; rfl
theorem names_tail1 {D : Ends} {c : Int} {d p : Addr} {k : Nat} {names : List Str} {ns : List Int} {H0 : Hp} {a5 a6 : Option V} (s0 : Same H0 H) (hd0 : H0 d = none) (hd : H d = some (.lst (strV names))) (hp : H p = some (.lst (intV ns))) (hS : Sg ns) (hN : Nms names) (hl : names.length < 12)
    (q : ∀ (x : Str) (b0 b1 b2 : Option V) (H' : Hp), Same H0 H' → H' d = some (.lst (strV (names ++ [x]))) → Nms (names ++ [x]) → D.nx [some (.int c), some (.str Lt), some (.ref d), some (.int k), b0, b1, b2] H') :
    namesT1 K D [some (.int c), some (.str Lt), some (.ref d), some (.int k), some (.ref p), a5, a6] H := by
  unfold namesT1
  walk_at "step"
  by_cases h4 : c % 4 = 3
  · rw [decide_eq_true h4]; refine iteT ?_
    walk_at "step"
    refine ⟨c, 2, rfl, by decide, by decide, fun m hm => ?_⟩
    refine v_mulI (.inl ⟨by decide, by decide⟩) ?_
    walk_at "step"
    refine ⟨_, rfl, fun p1 ns1 H1 s1 hp1 h1 hS1 => ?_⟩
    walk_at "step"
    refine .inr (.inr ⟨p1, _, rfl, SqL.of h1, fun p2 hp2 => ?_⟩)
    obtain ⟨u, hu⟩ : ∃ u : Nat, (k : Int) % 8 + 1 = (u : Int) ∧ 1 ≤ u := ⟨((k : Int) % 8 + 1).toNat, by omega, by omega⟩
    have ec : cutV (intV ns1) none (some ((k : Int) % 8 + 1)) = intV (ns1.take u) := by
      unfold cutV
      rw [hu.1, HT.sIx_nat]
      show ((intV ns1).drop 0).take (min u (intV ns1).length - 0) = _
      rw [List.drop_zero, Nat.sub_zero]
      unfold intV
      rw [List.map_take, List.length_map]
      by_cases hh : u ≤ ns1.length
      · rw [Nat.min_eq_left hh]
      · rw [Nat.min_eq_right (by omega), List.take_of_length_le (by rw [List.length_map]; exact Nat.le_refl _), List.take_of_length_le (by rw [List.length_map]; omega)]
    rw [ec]
    have hS2 : Sg (ns1.take u) := ⟨fun x hx => hS1.1 x (List.mem_of_mem_take hx), by rw [List.length_take]; have := hS1.2.1; omega, by rw [List.length_take]; have := hS1.2.2; omega⟩
    generalize ns1.take u = ns2 at *
    have hd2 : (upd H1 p2 (.lst (intV ns2))) d = some (.lst (strV names)) := by rw [upd_ne (ne_free (s1 _ _ hd) hp2)]; exact s1 _ _ hd
    have npd : p2 ≠ d := (ne_free (s1 _ _ hd) hp2).symm
    walk_at "step"
    refine v_ixL (SqL.of upd_same) (v := .int (ns2[0]'hS2.2.1)) (atI_nat (j := 0) (intV_at hS2.2.1)) ?_
    walk_at "step"
    refine .inr ⟨_, rfl, ?_⟩
    walk_at "step"
    refine .inl (v_setL upd_same (j := 0) (ixN_0 (by rw [intV_len]; exact hS2.2.1)) ?_)
    rw [intV_set]
    refine names_tail2 (H0 := H0) ?_ hd0 ?_ upd_same (hS2.set 0 (Int.emod_nonneg _ (by decide)) (Int.emod_lt_of_pos _ (by decide))) hN hl fun x b1 b2 H' => q x _ b1 b2 H'
    · exact Same.put (Same.tr s0 (Same.tr s1 (Same.new hp2 _))) (Same.free s0 (Same.free s1 hp2)) _
    · rw [upd_ne npd.symm]; exact hd2
  · rw [decide_eq_false h4]; refine iteF ?_
    walk_at "step"
    exact names_tail2 s0 hd0 hd hp hS hN hl fun x b1 b2 H' => q x _ b1 b2 H'
def sp__law_names (K : PySem.W.Frag) : Sp := fun vs H Q _ => ∃ c : Int, vs = [.int c] ∧ ∀ (d : Addr) (names : List Str) (H' : Hp), Same H H' → H d = none → H' d = some (.lst (strV names)) → names.length = 12 → Nms names → Q (.ref d) H'
theorem len__law_names (K : PySem.W.Frag) : ∀ vs H Q E, sp__law_names K vs H Q E → vs.length = ["_law_cell"].length := by rintro vs H Q E ⟨c, rfl, _⟩; rfl
def R__law_names (K : PySem.W.Frag) : TS :=
 (tSeq (tAsg (tC (.str ("abcdefghijklmnopqrstuvwxyz" : Str))) (gName 1))
 (tSeq (tAsg (tLst tNil) (gName 2))
 (tSeq (tFor (iRng1 (tCons (tC (.int 12)) tNil)) (gName 3)
 (tSeq (tAsg (tCall (sp__law_letters K) [] E0 (tCons (tOp (rI (fun _ j => 0 < j) fun i j => .int (i % j)) (tOp (rI (fun _ j => 0 ≤ j) fun i j => .int (i / 2 ^ j.toNat)) (tOp (rI CDiv fun i j => .int (i / j)) (tVar 0) (tC (.int 2))) (tOp rMulA (tC (.int 41)) (tVar 3))) (tOp (rI CPow fun i j => .int (i * 2 ^ j.toNat)) (tC (.int 1)) (tC (.int 41)))) tNil)) (gName 4))
 (tSeq (tIfS (tTest (tOp (rEqA K) (tOp (rI (fun _ j => 0 < j) fun i j => .int (i % j)) (tVar 0) (tC (.int 2))) (tC (.int 1))))
 (tSeq (tAsg (tCall (sp__law_letters K) [] E0 (tCons (tCall (sp__law_mixed K) [] E0 (tCons (tVar 0) (tCons (tC (.int 1)) tNil))) tNil)) (gName 4))
 (tAsg (tOp (rI (fun _ j => 0 < j) fun i j => .int (i % j)) (tOp (rAddA K) (tOp (rIxA K) (tVar 4) (tUn (rU fun i => .int (-i)) (tC (.int 1)))) (tVar 3)) (tC (.int 26))) (gSub (tVar 4) (tUn (rU fun i => .int (-i)) (tC (.int 1))) rSetA))) tNext)
 (namesT1 K))))
 (tRet (tVar 2)))))
theorem rd__law_names (h : sp__law_names K vs H Q E) : R__law_names K { nx := fun _ H' => Q .non H', rt := Q } (start ["_law_cell", "_law_letters_here", "_law_names_here", "_law_k", "_law_signs", "_law_name", "_law_spare"] vs) H := by
  obtain ⟨c, rfl, q⟩ := h
  show R__law_names K _ [some (.int c), none, none, none, none, none, none] H
  unfold R__law_names
  walk_at "step"
  refine ⟨sl64 (by simp), fun d hd => ?_⟩
  walk_at "step"
  refine rng1_for (by decide) (by decide) (fun i σ H' => ∃ (a3 a4 a5 a6 : Option V) (names : List Str), σ = [some (.int c), some (.str Lt), some (.ref d), a3, a4, a5, a6] ∧ Same H H' ∧ H' d = some (.lst (strV names)) ∧ names.length = i ∧ Nms names) ⟨none, none, none, none, [], rfl, Same.new hd _, upd_same, rfl, ⟨by simp, by simp, by simp⟩⟩ ?_ ?_
  · rintro i σ H' hi ⟨a3, a4, a5, a6, names, rfl, s1, h1, hl, hN⟩
    walk_at "step"
    refine v_mulI (.inl ⟨by decide, by decide⟩) ?_
    refine v_shr (by omega) ?_
    walk_at "step"
    refine v_shl ⟨by decide, by decide, by decide⟩ ?_
    refine v_mod (by decide) ?_
    walk_at "step"
    refine ⟨_, rfl, fun p ns H2 s2 hp hp2 hS => ?_⟩
    walk_at "step"
    have fin : ∀ (x : Str) (b0 b1 b2 : Option V) (H' : Hp), Same H H' → H' d = some (.lst (strV (names ++ [x]))) → Nms (names ++ [x]) → (fun σ H' => ∃ (a3 a4 a5 a6 : Option V) (names : List Str), σ = [some (.int c), some (.str Lt), some (.ref d), a3, a4, a5, a6] ∧ Same H H' ∧ H' d = some (.lst (strV names)) ∧ names.length = i + 1 ∧ Nms names) [some (.int c), some (.str Lt), some (.ref d), some (.int i), b0, b1, b2] H' :=
      fun x b0 b1 b2 H' s h n => ⟨_, _, _, _, _, rfl, s, h, by simp [hl], n⟩
    by_cases h2 : c % 2 = 1
    · rw [decide_eq_true h2]; refine iteT ?_
      walk_at "step"
      refine ⟨c, 1, rfl, by decide, by decide, fun m hm => ?_⟩
      walk_at "step"
      refine ⟨_, rfl, fun p1 ns1 H3 s3 hp1 h3 hS1 => ?_⟩
      have hd3 := s3 _ _ (s2 _ _ h1)
      have npd : p1 ≠ d := (ne_free (s2 _ _ h1) hp1).symm
      walk_at "step"
      refine ⟨1, rfl, ?_⟩
      refine v_ixL (SqL.of h3) (atI_end (by rw [intV_len]; exact hS1.2.1) (by rw [intV_len]; exact intV_at (by have := hS1.2.1; omega))) ?_
      walk_at "step"
      refine ⟨1, rfl, ?_⟩
      refine .inl (v_setL h3 (ixN_last (by rw [intV_len]; exact hS1.2.1)) ?_)
      rw [intV_set]
      refine names_tail1 (H0 := H) ?_ hd ?_ upd_same (hS1.set _ (Int.emod_nonneg _ (by decide)) (Int.emod_lt_of_pos _ (by decide))) hN (by omega) fin
      · exact Same.put (Same.tr s1 (Same.tr s2 s3)) (Same.free s1 (Same.free s2 hp1)) _
      · rw [upd_ne npd.symm]; exact hd3
    · rw [decide_eq_false h2]; refine iteF ?_
      walk_at "step"
      exact names_tail1 (H0 := H) (Same.tr s1 s2) hd (s2 _ _ h1) hp2 hS hN (by omega) fin
  · rintro σ H' ⟨a3, a4, a5, a6, names, rfl, s1, h1, hl, hN⟩
    walk_at "step"
    exact q d names H' s1 hd h1 hl hN

end My

namespace My
open PySem L2
variable {K : PySem.W.Frag} {vs : List V} {H : Hp} {Q : VK} {E : XK}

def gd (l : List Str) (i : Nat) : Str := l.getD i ("" : Str)
def isSort (x : Str) : Prop := x = ("bare" : Str) ∨ x = ("plain" : Str) ∨ x = ("anew" : Str) ∨ x = ("room" : Str) ∨ x = ("frame" : Str)
theorem gd_set_self {l : List Str} {i : Nat} {x : Str} (h : i < l.length) : gd (l.set i x) i = x := by
  unfold gd; rw [List.getD_eq_getElem?_getD, List.getElem?_set_self h]; rfl
theorem gd_set_ne {l : List Str} {i j : Nat} {x : Str} (h : i ≠ j) : gd (l.set i x) j = gd l j := by
  unfold gd; rw [List.getD_eq_getElem?_getD, List.getD_eq_getElem?_getD, List.getElem?_set_ne h]
theorem gd_get {l : List Str} {i : Nat} (h : i < l.length) : l[i]? = some (gd l i) := by
  unfold gd; rw [List.getD_eq_getElem?_getD]; simp [h]
theorem gd_mem {l : List Str} {i : Nat} (h : i < l.length) : gd l i ∈ l := List.mem_of_getElem? (gd_get h)
theorem gd_inj {names : List Str} (hn : names.Nodup) {i j : Nat} (hi : i < names.length) (hj : j < names.length) (e : gd names i = gd names j) : i = j := by
  have e1 : gd names i = names[i] := by have := gd_get hi; rw [List.getElem?_eq_getElem hi] at this; exact (Option.some.inj this).symm
  have e2 : gd names j = names[j] := by have := gd_get hj; rw [List.getElem?_eq_getElem hj] at this; exact (Option.some.inj this).symm
  have h1 := hn.idxOf_getElem i hi
  have h2 := hn.idxOf_getElem j hj
  rw [← e1, e, e2, h2] at h1
  exact h1.symm
theorem at_str {xs : List Str} {i : Nat} (h : i < xs.length) : atI (strV xs) ((i : Nat) : Int) = some (.str (gd xs i)) := atI_nat (by unfold strV; rw [List.getElem?_map, gd_get h]; rfl)
theorem set_strV (xs : List Str) (i : Nat) (x : Str) : (strV xs).set i (.str x) = strV (xs.set i x) := by unfold strV; rw [List.map_set]
theorem ixN_nat {n k : Nat} (h : k < n) : ixN n ((k : Nat) : Int) = some k := by
  unfold ixN
  rw [if_pos (by omega), if_pos (by omega)]
  congr 1
def natD (js : List Nat) : List PyData := js.map fun (j : Nat) => .int (j : Int)
def natV (js : List Nat) : List V := js.map fun (j : Nat) => .int (j : Int)
theorem natV_len (js : List Nat) : (natV js).length = js.length := List.length_map _
theorem natV_app (js : List Nat) (j : Nat) : natV js ++ [V.int (j : Int)] = natV (js ++ [j]) := by simp [natV]
theorem dvs_nat {H : Hp} : ∀ js : List Nat, Dvs K H (natD js) (natV js)
  | [] => dvs_nil
  | j :: js => dvs_cons (dv_int.mpr rfl) (dvs_nat js)
theorem depth_nat : ∀ js : List Nat, PyData.depthAll (natD js) = 0
  | [] => by simp [natD, PyData.depthAll]
  | j :: js => by
    have := depth_nat js
    show PyData.depthAll (.int (j : Int) :: natD js) = 0
    rw [PyData.depthAll, this]; simp [PyData.depth]
theorem eqv_nat (js : List Nat) : PyData.eqv (.list (natD js)) (.list []) = decide (js = []) := by
  cases js with
  | nil => simp [natD, PyData.eqv, PyData.eqvAll]
  | cons j js => simp [natD, PyData.eqv, PyData.eqvAll]
theorem flat_natV (js : List Nat) : (natV js).all flatV = true := by unfold natV; rw [List.all_map]; exact List.all_eq_true.mpr fun _ _ => rfl
theorem inV_natV (x : Nat) : ∀ xs : List Nat, inV (.int (x : Int)) (natV xs) = decide (x ∈ xs)
  | [] => by simp [natV, inV]
  | y :: ys => by
    have ih := inV_natV x ys
    unfold inV at ih ⊢
    show (eqV (.int (y : Int)) (.int (x : Int)) || (natV ys).any fun z => eqV z (.int (x : Int))) = _
    rw [ih]
    by_cases e : x = y
    · subst e; simp [eqV]
    · have e' : ¬ ((y : Int) = (x : Int)) := fun z => e (by omega)
      simp [eqV, e, e']
theorem at_nat {js : List Nat} {i : Nat} (h : i < js.length) : ∃ j, j ∈ js ∧ atI (natV js) ((i : Nat) : Int) = some (.int (j : Nat)) := ⟨js[i], List.getElem_mem h, atI_nat (by unfold natV; rw [List.getElem?_map, List.getElem?_eq_getElem h]; rfl)⟩

def isPF (x : Str) : Prop := x = ("plain" : Str) ∨ x = ("frame" : Str)
instance (x : Str) : Decidable (isPF x) := inferInstanceAs (Decidable (_ ∨ _))
structure Srt (names : List Str) (c : Nat) (S Hs : List Str) (T : List Nat) (k : Nat) : Prop where
  ls : S.length = c
  lh : Hs.length = c
  srt : ∀ x ∈ S, isSort x
  host : ∀ i, i < k → i < c → gd S i = ("frame" : Str) → ∃ j, i < j ∧ j < c ∧ gd Hs i = gd names j ∧ isPF (gd S j) ∧ j ∈ T
  no : ∀ i, i < c → (k ≤ i ∨ gd S i ≠ ("frame" : Str)) → gd Hs i = ("" : Str)
  tk : ∀ j ∈ T, j < c ∧ isPF (gd S j) ∧ ∃ i, i < j ∧ i < k ∧ gd S i = ("frame" : Str) ∧ gd Hs i = gd names j
  uq : ∀ i i', i < k → i' < k → i < c → i' < c → gd S i = ("frame" : Str) → gd S i' = ("frame" : Str) → gd Hs i = gd Hs i' → i = i'
  tl : T.length ≤ k
section
variable {names S Hs : List Str} {T : List Nat} {c k : Nat}
/-- k is no frame -/
theorem Srt.keep (g : Srt names c S Hs T k) (hk : k < c) (hf : gd S k ≠ ("frame" : Str)) : Srt names c S Hs T (k + 1) := by
  refine ⟨g.ls, g.lh, g.srt, fun i h1 h2 h3 => ?_, fun i h1 h2 => ?_, fun j hj => ?_, fun i i' a b e f g1 g2 g3 => ?_, Nat.le_succ_of_le g.tl⟩
  · by_cases e : i = k
    · subst e; exact absurd h3 hf
    · exact g.host i (by omega) h2 h3
  · rcases h2 with h2 | h2
    · exact g.no i h1 (.inl (by omega))
    · exact g.no i h1 (.inr h2)
  · obtain ⟨a, b, i, h1, h2, h3⟩ := g.tk j hj
    exact ⟨a, b, i, h1, by omega, h3⟩
  · have n1 : i ≠ k := fun z => by rw [z] at g1; exact hf g1
    have n2 : i' ≠ k := fun z => by rw [z] at g2; exact hf g2
    exact g.uq i i' (by omega) (by omega) e f g1 g2 g3
/-- a frame that finds no host is put otherwise -/
theorem Srt.put (g : Srt names c S Hs T k) (hk : k < c) (x : Str) (hx : isSort x) (hf : gd S k = ("frame" : Str)) (hnf : x ≠ ("frame" : Str)) (hT : k ∈ T → isPF x) : Srt names c (S.set k x) Hs T k := by
  have hkS : k < S.length := by rw [g.ls]; exact hk
  have pf : ∀ j, j ∈ T → isPF (gd S j) → isPF (gd (S.set k x) j) := fun j hj h => by
    by_cases e : k = j
    · subst e; rw [gd_set_self hkS]; exact hT hj
    · rw [gd_set_ne e]; exact h
  have fr : ∀ i, gd (S.set k x) i = ("frame" : Str) → i ≠ k ∧ gd S i = ("frame" : Str) := fun i h => by
    by_cases e : k = i
    · subst e; rw [gd_set_self hkS] at h; exact absurd h hnf
    · rw [gd_set_ne e] at h; exact ⟨fun z => e z.symm, h⟩
  refine ⟨by rw [List.length_set]; exact g.ls, g.lh, fun y hy => ?_, fun i h1 h2 h3 => ?_, fun i h1 h2 => ?_, fun j hj => ?_, fun i i' a b e f g1 g2 g3 => g.uq i i' a b e f (fr i g1).2 (fr i' g2).2 g3, g.tl⟩
  · rcases List.mem_or_eq_of_mem_set hy with h | h
    · exact g.srt y h
    · rw [h]; exact hx
  · obtain ⟨j, a, b, e, f, t⟩ := g.host i h1 h2 (fr i h3).2
    exact ⟨j, a, b, e, pf j t f, t⟩
  · rcases h2 with h2 | h2
    · exact g.no i h1 (.inl h2)
    · by_cases e : k = i
      · exact g.no i h1 (.inl (by omega))
      · rw [gd_set_ne e] at h2; exact g.no i h1 (.inr h2)
  · obtain ⟨a, b, i, h1, h2, h3, h4⟩ := g.tk j hj
    exact ⟨a, pf j hj b, i, h1, h2, by rw [gd_set_ne (by omega)]; exact h3, h4⟩
/-- a frame gets its host -/
theorem Srt.take (g : Srt names c S Hs T k) (hn : Nms names) (hcn : c ≤ names.length) (hk : k < c) (hf : gd S k = ("frame" : Str)) {j : Nat} (hj : k < j) (hj2 : j < c) (hp : isPF (gd S j)) (hT : j ∉ T) : Srt names c S (Hs.set k (gd names j)) (T ++ [j]) (k + 1) := by
  have hkH : k < Hs.length := by rw [g.lh]; exact hk
  refine ⟨g.ls, by rw [List.length_set]; exact g.lh, g.srt, fun i h1 h2 h3 => ?_, fun i h1 h2 => ?_, fun i hi => ?_, fun i i' a b e f g1 g2 g3 => ?_, by rw [List.length_append, List.length_singleton]; have := g.tl; omega⟩
  · by_cases e : k = i
    · subst e; exact ⟨j, hj, hj2, gd_set_self hkH, hp, by simp⟩
    · obtain ⟨j', a, b, e', f, t⟩ := g.host i (by omega) h2 h3
      exact ⟨j', a, b, by rw [gd_set_ne e]; exact e', f, by simp [t]⟩
  · by_cases e : k = i
    · subst e
      rcases h2 with h2 | h2
      · omega
      · exact absurd hf h2
    · rw [gd_set_ne e]
      rcases h2 with h2 | h2
      · exact g.no i h1 (.inl (by omega))
      · exact g.no i h1 (.inr h2)
  · rcases List.mem_append.mp hi with h | h
    · obtain ⟨a, b, i', h1, h2, h3, h4⟩ := g.tk i h
      exact ⟨a, b, i', h1, by omega, h3, by rw [gd_set_ne (by omega)]; exact h4⟩
    · rw [List.mem_singleton.mp h]; exact ⟨hj2, hp, k, hj, by omega, hf, gd_set_self hkH⟩
  · have other : ∀ m, m ≠ k → m < k + 1 → m < c → gd S m = ("frame" : Str) → gd Hs m ≠ gd names j := fun m h1 h2 h3 h4 h5 => by
      obtain ⟨j', a, b, e', f, t⟩ := g.host m (by omega) h3 h4
      rw [e'] at h5
      have := gd_inj hn.nd (by omega) (by omega) h5
      exact hT (this ▸ t)
    by_cases ei : k = i
    · by_cases ei' : k = i'
      · omega
      · subst ei; rw [gd_set_self hkH, gd_set_ne ei'] at g3
        exact absurd g3.symm (other i' (fun z => ei' z.symm) b f g2)
    · by_cases ei' : k = i'
      · subst ei'; rw [gd_set_self hkH, gd_set_ne ei] at g3
        exact absurd g3 (other i (fun z => ei z.symm) a e g1)
      · rw [gd_set_ne ei, gd_set_ne ei'] at g3
        exact g.uq i i' (by omega) (by omega) e f g1 g2 g3
end
def sort9 : List Str := ["plain", "anew", "frame", "plain", "room", "frame", "bare", "anew", "plain"]
theorem sort9_is : ∀ x ∈ sort9, isSort x := by
  intro x hx
  simp only [sort9, List.mem_cons, List.not_mem_nil, or_false] at hx
  unfold isSort
  rcases hx with h | h | h | h | h | h | h | h | h <;> simp [h]
def sortsT1 (K : PySem.W.Frag) : TS :=
 (tIfS (tTest (tOp (rEqA K) (tOp (rIxA K) (tVar 4) (tVar 7)) (tC (.str ("frame" : Str)))))
 (tSeq (tAsg (tOp (rIxA K) (tVar 8) (tOp (rI (fun _ j => 0 < j) fun i j => .int (i % j)) (tCall (sp__law_mixed K) [] E0 (tCons (tCall (sp__law_cell_at K) [] E0 (tCons (tVar 0) (tCons (tOp (rAddA K) (tC (.int 2)) (tVar 7)) tNil))) (tCons (tC (.int 2)) tNil))) (tCB (rLenA K) (tCons (tVar 8) tNil)))) (gName 9))
 (tSeq (tDrop (tBM K "list" rAppend (tVar 6) (tCons (tVar 9) tNil)))
 (tAsg (tOp (rIxA K) (tVar 1) (tVar 9)) (gSub (tVar 5) (tVar 7) rSetA)))) tNext)
def sortsT0 (K : PySem.W.Frag) : TS :=
 (tSeq (tIfS (tAnd (tTest (tOp (rEqA K) (tOp (rIxA K) (tVar 4) (tVar 7)) (tC (.str ("frame" : Str))))) (tTest (tOp (rEqA K) (tVar 8) (tLst tNil))))
 (tAsg (tOp (rIxA K) (tLst (tCons (tC (.str ("room" : Str))) (tCons (tC (.str ("plain" : Str))) tNil))) (tCB rIntA (tCons (tOp (rInB K false) (tVar 7) (tVar 6)) tNil))) (gSub (tVar 4) (tVar 7) rSetA)) tNext)
 (sortsT1 K))

structure Ap (H0 : Hp) (pS pH pT : Addr) : Prop where
  s0 : H0 pS = none
  h0 : H0 pH = none
  t0 : H0 pT = none
  sh : pS ≠ pH
  st : pS ≠ pT
  ht : pH ≠ pT
structure SH (H0 : Hp) (pS pH pT : Addr) (S Hs : List Str) (T : List Nat) (H' : Hp) : Prop where
  sm : Same H0 H'
  hS : H' pS = some (.lst (strV S))
  hH : H' pH = some (.lst (strV Hs))
  hT : H' pT = some (.lst (natV T))
section
variable {H0 H1 : Hp} {pS pH pT : Addr} {S Hs : List Str} {T : List Nat}
theorem SH.lay (s : SH H0 pS pH pT S Hs T H) {p : Addr} (hp : H p = none) (o : HO) : SH H0 pS pH pT S Hs T (upd H p o) :=
  ⟨Same.tr s.sm (Same.new hp o), by rw [upd_ne (ne_free s.hS hp)]; exact s.hS, by rw [upd_ne (ne_free s.hH hp)]; exact s.hH, by rw [upd_ne (ne_free s.hT hp)]; exact s.hT⟩
theorem SH.same (s : SH H0 pS pH pT S Hs T H) (h : Same H H1) : SH H0 pS pH pT S Hs T H1 := ⟨Same.tr s.sm h, h _ _ s.hS, h _ _ s.hH, h _ _ s.hT⟩
theorem SH.setS (s : SH H0 pS pH pT S Hs T H) (A : Ap H0 pS pH pT) (S' : List Str) : SH H0 pS pH pT S' Hs T (upd H pS (.lst (strV S'))) :=
  ⟨Same.put s.sm A.s0 _, upd_same, by rw [upd_ne A.sh.symm]; exact s.hH, by rw [upd_ne A.st.symm]; exact s.hT⟩
theorem SH.setH (s : SH H0 pS pH pT S Hs T H) (A : Ap H0 pS pH pT) (Hs' : List Str) : SH H0 pS pH pT S Hs' T (upd H pH (.lst (strV Hs'))) :=
  ⟨Same.put s.sm A.h0 _, by rw [upd_ne A.sh]; exact s.hS, upd_same, by rw [upd_ne A.ht.symm]; exact s.hT⟩
theorem SH.setT (s : SH H0 pS pH pT S Hs T H) (A : Ap H0 pS pH pT) (T' : List Nat) : SH H0 pS pH pT S Hs T' (upd H pT (.lst (natV T'))) :=
  ⟨Same.put s.sm A.t0 _, by rw [upd_ne A.st]; exact s.hS, by rw [upd_ne A.ht]; exact s.hH, upd_same⟩
end
theorem sorts_tail1 {D : Ends} {H0 : Hp} {sc nm pS pH pT pa : Addr} {ns : List Int} {names S Hs : List Str} {T js : List Nat} {c k : Nat} {a3 a9 : Option V} (A : Ap H0 pS pH pT) (hS : SqL K H0 sc (ns.map V.int)) (hN : H0 nm = some (.lst (strV names))) (nN : Nms names) (hcn : c ≤ names.length) (hc : c ≤ 12) (hk : k < c)
    (s : SH H0 pS pH pT S Hs T H) (g : Srt names c S Hs T k) (ha : H pa = some (.lst (natV js))) (hpa : H0 pa = none) (npT : pa ≠ pT) (npH : pa ≠ pH) (hjs : ∀ j ∈ js, k < j ∧ j < c ∧ isPF (gd S j) ∧ j ∉ T) (hne : gd S k = ("frame" : Str) → js ≠ []) (hjl : js.length ≤ 12)
    (q : ∀ (S' Hs' : List Str) (T' : List Nat) (b8 b9 : Option V) (H' : Hp), SH H0 pS pH pT S' Hs' T' H' → Srt names c S' Hs' T' (k + 1) → D.nx [some (.ref sc), some (.ref nm), some (.int c), a3, some (.ref pS), some (.ref pH), some (.ref pT), some (.int k), b8, b9] H') :
    sortsT1 K D [some (.ref sc), some (.ref nm), some (.int c), a3, some (.ref pS), some (.ref pH), some (.ref pT), some (.int k), some (.ref pa), a9] H := by
  unfold sortsT1
  walk_at "step"
  refine v_ixL (SqL.of s.hS) (at_str (by rw [g.ls]; exact hk)) ?_
  walk_at "step"
  by_cases hf : gd S k = ("frame" : Str)
  · rw [decide_eq_true hf]; refine iteT ?_
    have hne := hne hf
    have jl : 0 < js.length := List.length_pos_iff.mpr hne
    walk_at "step"
    refine ⟨sc, ns, _, rfl, s.sm.sqL hS, by omega, fun c0 => ?_⟩
    walk_at "step"
    refine ⟨c0, 2, rfl, by decide, by decide, fun m hm => ?_⟩
    walk_at "step"
    refine v_lenQ (.inl (SqL.of ha)) ?_
    rw [natV_len]
    refine v_mod (by omega) ?_
    have m0 := Int.emod_nonneg m (show ((js.length : Nat) : Int) ≠ 0 by omega)
    have m1 := Int.emod_lt_of_pos m (show (0 : Int) < ((js.length : Nat) : Int) by omega)
    obtain ⟨u, hu⟩ := Int.eq_ofNat_of_zero_le m0
    rw [hu]
    obtain ⟨j, hj, ej⟩ := at_nat (js := js) (i := u) (by omega)
    refine v_ixL (SqL.of ha) ej ?_
    obtain ⟨j1, j2, j3, j4⟩ := hjs j hj
    walk_at "step"
    refine ⟨.inl ⟨rfl, _, SqL.of s.hT⟩, ?_⟩
    walk_at "step"
    refine v_append s.hT (by rw [natV_len, sizeLine_eq]; have := g.tl; omega) ?_
    rw [natV_app]
    walk_at "step"
    have s2 := s.setT A (T ++ [j])
    refine v_ixL (SqL.of (s2.sm _ _ hN)) (at_str (by omega)) ?_
    walk_at "step"
    refine .inl (v_setL s2.hH (ixN_nat (by rw [strV_len, g.lh]; exact hk)) ?_)
    rw [set_strV]
    walk_at "step"
    exact q _ _ _ _ _ _ (s2.setH A _) (g.take nN hcn hk hf j1 j2 j3 j4)
  · rw [decide_eq_false hf]; refine iteF ?_
    walk_at "step"
    exact q _ _ _ _ _ _ s (g.keep hk hf)
theorem sorts_tail0 {D : Ends} {H0 : Hp} {sc nm pS pH pT pa : Addr} {ns : List Int} {names S Hs : List Str} {T js : List Nat} {c k : Nat} {a3 a9 : Option V} (A : Ap H0 pS pH pT) (hS : SqL K H0 sc (ns.map V.int)) (hN : H0 nm = some (.lst (strV names))) (nN : Nms names) (hcn : c ≤ names.length) (hc : c ≤ 12) (hk : k < c)
    (s : SH H0 pS pH pT S Hs T H) (g : Srt names c S Hs T k) (ha : H pa = some (.lst (natV js))) (hpa : H0 pa = none) (npT : pa ≠ pT) (npH : pa ≠ pH) (npS : pa ≠ pS) (hjs : ∀ j ∈ js, k < j ∧ j < c ∧ isPF (gd S j) ∧ j ∉ T) (hjl : js.length ≤ 12)
    (q : ∀ (S' Hs' : List Str) (T' : List Nat) (b8 b9 : Option V) (H' : Hp), SH H0 pS pH pT S' Hs' T' H' → Srt names c S' Hs' T' (k + 1) → D.nx [some (.ref sc), some (.ref nm), some (.int c), a3, some (.ref pS), some (.ref pH), some (.ref pT), some (.int k), b8, b9] H') :
    sortsT0 K D [some (.ref sc), some (.ref nm), some (.int c), a3, some (.ref pS), some (.ref pH), some (.ref pT), some (.int k), some (.ref pa), a9] H := by
  unfold sortsT0
  walk_at "step"
  refine v_ixL (SqL.of s.hS) (at_str (by rw [g.ls]; exact hk)) ?_
  walk_at "step"
  by_cases hf : gd S k = ("frame" : Str)
  · rw [decide_eq_true hf]; refine iteT ?_
    walk_at "step"
    refine ⟨sl64 (by simp), fun t ht => ?_⟩
    have s1 := s.lay ht (.lst [])
    have ha1 : (upd H t (.lst [])) pa = some (.lst (natV js)) := by rw [upd_ne (ne_free ha ht)]; exact ha
    refine v_eqD (d := .list (natD js)) (e := .list []) (dv_list.mpr ⟨pa, _, rfl, SqL.of ha1, dvs_nat js⟩) (dv_list.mpr ⟨t, [], rfl, SqL.of upd_same, dvs_nil⟩) (by rw [PyData.depth, depth_nat]; decide) ?_
    rw [eqv_nat]
    walk_at "step"
    by_cases hj : js = []
    · rw [decide_eq_true hj]; refine iteT ?_
      walk_at "step"
      refine ⟨sl64 (by simp), fun t2 ht2 => ?_⟩
      walk_at "step"
      have s2 := s1.lay ht2 (.lst [.str ("room" : Str), .str ("plain" : Str)])
      refine .inl (v_in (.inl (SqL.of s2.hT)) rfl (flat_natV _) ?_)
      rw [inV_natV]
      walk_at "step"
      have fin : ∀ x : Str, isSort x → x ≠ ("frame" : Str) → (k ∈ T → isPF x) → rSetA (.ref pS) (.int (k : Int)) (.str x) (upd (upd H t (.lst [])) t2 (.lst [.str ("room" : Str), .str ("plain" : Str)])) fun H3 => sortsT1 K D [some (.ref sc), some (.ref nm), some (.int c), a3, some (.ref pS), some (.ref pH), some (.ref pT), some (.int k), some (.ref pa), a9] H3 := by
        intro x h1 h2 h3
        refine .inl (v_setL s2.hS (ixN_nat (by rw [strV_len, g.ls]; exact hk)) ?_)
        rw [set_strV]
        have g2 := g.put hk x h1 hf h2 h3
        have nf : gd (S.set k x) k ≠ ("frame" : Str) := by rw [gd_set_self (by rw [g.ls]; exact hk)]; exact h2
        refine sorts_tail1 A hS hN nN hcn hc hk (s2.setS A _) g2 (js := []) ?_ hpa npT npH (by simp) (fun h => absurd h nf) (by simp) q
        have n2 : pa ≠ t2 := ne_free ha1 ht2
        rw [upd_ne npS, upd_ne n2, ha1, hj]
      by_cases hT : k ∈ T
      · rw [decide_eq_true hT]
        refine .inr ⟨true, rfl, ?_⟩
        refine v_ixL (SqL.of upd_same) (v := .str ("plain" : Str)) rfl ?_
        walk_at "step"
        exact fin _ (.inr (.inl rfl)) (by decide) fun _ => .inl rfl
      · rw [decide_eq_false hT]
        refine .inr ⟨false, rfl, ?_⟩
        refine v_ixL (SqL.of upd_same) (v := .str ("room" : Str)) rfl ?_
        walk_at "step"
        exact fin _ (.inr (.inr (.inr (.inl rfl)))) (by decide) fun h => absurd h hT
    · rw [decide_eq_false hj]; refine iteF ?_
      walk_at "step"
      exact sorts_tail1 A hS hN nN hcn hc hk s1 g ha1 hpa npT npH hjs (fun _ => hj) hjl q
  · rw [decide_eq_false hf]; refine iteF ?_
    refine iteF ?_
    walk_at "step"
    exact sorts_tail1 A hS hN nN hcn hc hk s g ha hpa npT npH hjs (fun h => absurd h hf) hjl q

theorem at_strs {zs : List Str} {i : Int} (h0 : 0 ≤ i) (h1 : i < zs.length) : ∃ z ∈ zs, atI (strV zs) i = some (.str z) := by
  obtain ⟨k, rfl⟩ := Int.eq_ofNat_of_zero_le h0
  exact ⟨gd zs k, gd_mem (by omega), at_str (by omega)⟩
theorem strV_app (zs : List Str) (z : Str) : strV zs ++ [V.str z] = strV (zs ++ [z]) := by simp [strV]
theorem gd_rep (n i : Nat) : gd (List.replicate n ("" : Str)) i = ("" : Str) := by
  unfold gd
  rw [List.getD_eq_getElem?_getD, List.getElem?_replicate]
  split <;> rfl
theorem srt_start {names S : List Str} {c : Nat} (h : S.length = c) (hs : ∀ x ∈ S, isSort x) : Srt names c S (List.replicate c ("" : Str)) [] 0 :=
  ⟨h, List.length_replicate, hs, fun i h => by omega, fun i _ _ => gd_rep _ _, fun j h => by simp at h, fun i _ h => by omega, Nat.le_refl _⟩
def sp__law_sorts (K : PySem.W.Frag) : Sp := fun vs H Q _ => ∃ (sc nm : Addr) (ns : List Int) (names : List Str) (c : Nat), vs = [.ref sc, .ref nm, .int c] ∧ SqL K H sc (ns.map V.int) ∧ H nm = some (.lst (strV names)) ∧ Nms names ∧ c ≤ names.length ∧ c ≤ 12 ∧ ∀ (t pS pH pT : Addr) (S Hs : List Str) (T : List Nat) (H' : Hp), Same H H' → H' t = some (.tup [.ref pS, .ref pH, .ref pT]) → H' pS = some (.lst (strV S)) → H' pH = some (.lst (strV Hs)) → H' pT = some (.lst (natV T)) → Srt names c S Hs T c → Q (.ref t) H'
theorem len__law_sorts (K : PySem.W.Frag) : ∀ vs H Q E, sp__law_sorts K vs H Q E → vs.length = ["_law_script", "_law_names_here", "_law_count"].length := by rintro vs H Q E ⟨sc, nm, ns, names, c, rfl, _⟩; rfl
def R__law_sorts (K : PySem.W.Frag) : TS :=
 (tSeq (tAsg (tLst (tStrs [("plain" : Str), ("anew" : Str), ("frame" : Str), ("plain" : Str), ("room" : Str), ("frame" : Str), ("bare" : Str), ("anew" : Str), ("plain" : Str)])) (gName 3))
 (tSeq (tAsg (tComp [some 3, some 0, none] (iRng1 (tCons (tVar 2) tNil)) (gName 2) tTT (tOp (rIxA K) (tVar 0) (tOp (rI (fun _ j => 0 < j) fun i j => .int (i % j)) (tCall (sp__law_mixed K) [] E0 (tCons (tCall (sp__law_cell_at K) [] E0 (tCons (tVar 1) (tCons (tOp (rAddA K) (tC (.int 2)) (tVar 2)) tNil))) (tCons (tC (.int 1)) tNil))) (tC (.int 9))))) (gName 4))
 (tSeq (tAsg (tComp [none] (iRng1 (tCons (tVar 2) tNil)) (gName 0) tTT (tC (.str ("" : Str)))) (gName 5))
 (tSeq (tAsg (tLst tNil) (gName 6))
 (tSeq (tFor (iRng1 (tCons (tVar 2) tNil)) (gName 7)
 (tSeq (tAsg (tComp [some 6, some 4, none] (iRng2 (tCons (tOp (rAddA K) (tVar 7) (tC (.int 1))) (tCons (tVar 2) tNil))) (gName 2) (tAnd (tTest (tOp (rInB K false) (tOp (rIxA K) (tVar 1) (tVar 2)) (tTup (tCons (tC (.str ("plain" : Str))) (tCons (tC (.str ("frame" : Str))) tNil))))) (tTest (tOp (rInB K true) (tVar 2) (tVar 0)))) (tVar 2)) (gName 8))
 (sortsT0 K)))
 (tRet (tTup (tCons (tVar 4) (tCons (tVar 5) (tCons (tVar 6) tNil))))))))))
theorem rd__law_sorts (h : sp__law_sorts K vs H Q E) : R__law_sorts K { nx := fun _ H' => Q .non H', rt := Q } (start ["_law_script", "_law_names_here", "_law_count", "_law_some", "_law_sorts_here", "_law_hosts_here", "_law_taken", "_law_k", "_law_able", "_law_j"] vs) H := by
  obtain ⟨sc, nm, ns, names, c, rfl, hS, hN, nN, hcn, hc, q⟩ := h
  show R__law_sorts K _ [some (.ref sc), some (.ref nm), some (.int c), none, none, none, none, none, none, none] H
  unfold R__law_sorts
  walk_at "step"
  refine ⟨sl64 (show (9 : Nat) ≤ _ by decide), fun p9 h9 => ?_⟩
  walk_at "step"
  have s9 : Same H (upd H p9 (.lst (strV sort9))) := Same.new h9 _
  refine rng1_comp (by omega) (by omega) (fun i ys H' => H' = upd H p9 (.lst (strV sort9)) ∧ ∃ zs : List Str, ys = strV zs ∧ zs.length = i ∧ ∀ x ∈ zs, isSort x) ⟨rfl, [], rfl, rfl, by simp⟩ ?_ ?_ ?_
  · rintro i ys H' hi ⟨_, zs, rfl, hz, _⟩
    rw [strV_len]; exact sl64 (by omega)
  · rintro i ys H' hi ⟨rfl, zs, rfl, hz, hzs⟩
    walk_at "step"
    refine ⟨sc, ns, _, rfl, s9.sqL hS, by omega, fun c0 => ?_⟩
    walk_at "step"
    refine ⟨c0, 1, rfl, by decide, by decide, fun m hm => ?_⟩
    walk_at "step"
    obtain ⟨z, hz1, hz2⟩ := at_strs (zs := sort9) (Int.emod_nonneg m (by decide)) (Int.emod_lt_of_pos m (by decide))
    refine v_ixL (SqL.of upd_same) hz2 ?_
    refine ⟨rfl, zs ++ [z], strV_app _ _, by simp [hz], fun x hx => ?_⟩
    rcases List.mem_append.mp hx with h | h
    · exact hzs x h
    · rw [List.mem_singleton.mp h]; exact sort9_is z hz1
  rintro ys H1 ⟨rfl, S, rfl, hSl, hSs⟩ pS hpS
  walk_at "step"
  have hpS0 : H pS = none := Same.free s9 hpS
  have sS : Same H (upd (upd H p9 (.lst (strV sort9))) pS (.lst (strV S))) := Same.tr s9 (Same.new hpS _)
  generalize hHS : upd (upd H p9 (.lst (strV sort9))) pS (.lst (strV S)) = HS at *
  have hqS : HS pS = some (.lst (strV S)) := by rw [← hHS]; exact upd_same
  refine rng1_comp (by omega) (by omega) (fun i ys H' => H' = HS ∧ ys = strV (List.replicate i ("" : Str))) ⟨rfl, rfl⟩ ?_ ?_ ?_
  · rintro i ys H' hi ⟨_, rfl⟩
    rw [strV_len, List.length_replicate]; exact sl64 (by omega)
  · rintro i ys H' hi ⟨rfl, rfl⟩
    walk_at "step"
    exact ⟨rfl, by rw [strV_app, List.replicate_succ']⟩
  rintro ys H2 ⟨rfl, rfl⟩ pH hpH
  walk_at "step"
  have hpH0 : H pH = none := Same.free sS hpH
  refine ⟨sl64 (by simp), fun pT hpT => ?_⟩
  have hpT0 : H pT = none := Same.free (Same.tr sS (Same.new hpH _)) hpT
  have nSH : pS ≠ pH := ne_free hqS hpH
  have nST : pS ≠ pT := ne_free (show (upd H2 pH _) pS = _ by rw [upd_ne nSH]; exact hqS) hpT
  have nHT : pH ≠ pT := fun e => by rw [← e, upd_same] at hpT; cases hpT
  have A : Ap H pS pH pT := ⟨hpS0, hpH0, hpT0, nSH, nST, nHT⟩
  have eS : S.length = c := by omega
  have ec : ((c : Int)).toNat = c := by omega
  rw [ec] at *
  walk_at "step"
  refine rng1_for (by omega) (by omega) (fun i σ H' => ∃ (a7 a8 a9 : Option V) (S Hs : List Str) (T : List Nat), σ = [some (.ref sc), some (.ref nm), some (.int c), some (.ref p9), some (.ref pS), some (.ref pH), some (.ref pT), a7, a8, a9] ∧ SH H pS pH pT S Hs T H' ∧ Srt names c S Hs T i) ?_ ?_ ?_
  · refine ⟨none, none, none, S, List.replicate c ("" : Str), [], rfl, ⟨Same.tr sS (Same.tr (Same.new hpH _) (Same.new hpT _)), ?_, ?_, upd_same⟩, srt_start eS hSs⟩
    · rw [upd_ne nST, upd_ne nSH]; exact hqS
    · rw [upd_ne nHT]; exact upd_same
  · rintro i σ H' hi ⟨a7, a8, a9, S, Hs, T, rfl, s, g⟩
    walk_at "step"
    refine rng2_comp (by omega) (by omega) (by omega) (fun m ys H'' => SH H pS pH pT S Hs T H'' ∧ ∃ js : List Nat, ys = natV js ∧ js.length ≤ m ∧ ∀ j ∈ js, i < j ∧ j < c ∧ isPF (gd S j) ∧ j ∉ T) ⟨s, [], rfl, Nat.le_refl _, by simp⟩ ?_ ?_ ?_
    · rintro m ys H'' hm ⟨_, js, rfl, hl, _⟩
      rw [natV_len]; exact sl64 (by omega)
    · rintro m ys H'' hm ⟨s', js, rfl, hl, hjs⟩
      have ej : (i : Int) + 1 + (m : Int) = ((i + 1 + m : Nat) : Int) := by omega
      rw [ej]
      walk_at "step"
      refine v_ixL (SqL.of s'.hS) (at_str (by rw [g.ls]; omega)) ?_
      walk_at "step"
      refine ⟨sl64 (by simp), fun t ht => ?_⟩
      have s2 := s'.lay ht (.tup [.str ("plain" : Str), .str ("frame" : Str)])
      refine .inl (v_in (xs := strV [("plain" : Str), ("frame" : Str)]) (.inr (SqT.of upd_same)) rfl (flat_strV _) ?_)
      rw [inV_strV]
      walk_at "step"
      by_cases hp : isPF (gd S (i + 1 + m))
      · rw [decide_eq_true (show gd S (i + 1 + m) ∈ [("plain" : Str), ("frame" : Str)] by rcases hp with h | h <;> rw [h] <;> simp)]
        refine iteT ?_
        walk_at "step"
        refine .inl (v_notin (.inl (SqL.of s2.hT)) rfl (flat_natV _) ?_)
        rw [inV_natV]
        walk_at "step"
        by_cases hT : (i + 1 + m) ∈ T
        · rw [decide_eq_true hT]
          refine iteF ?_
          exact ⟨s2, js, rfl, by omega, hjs⟩
        · rw [decide_eq_false hT]
          refine iteT ?_
          walk_at "step"
          refine ⟨s2, js ++ [i + 1 + m], natV_app _ _, by rw [List.length_append, List.length_singleton]; omega, fun j hj => ?_⟩
          rcases List.mem_append.mp hj with h | h
          · exact hjs j h
          · rw [List.mem_singleton.mp h]; exact ⟨by omega, by omega, hp, hT⟩
      · rw [decide_eq_false (show ¬ gd S (i + 1 + m) ∈ [("plain" : Str), ("frame" : Str)] from fun h => hp (by simpa [isPF] using h))]
        refine iteF ?_
        refine iteF ?_
        exact ⟨s2, js, rfl, by omega, hjs⟩
    rintro ys H3 ⟨s3, js, rfl, hl, hjs⟩ pa hpa
    walk_at "step"
    refine sorts_tail0 A hS hN nN hcn hc (by omega) (s3.lay hpa _) g upd_same (Same.free s3.sm hpa) (ne_free s3.hT hpa).symm (ne_free s3.hH hpa).symm (ne_free s3.hS hpa).symm hjs (by omega) ?_
    intro S' Hs' T' b8 b9 H4 s4 g4
    exact ⟨_, _, _, S', Hs', T', rfl, s4, g4⟩
  · rintro σ H' ⟨a7, a8, a9, S, Hs, T, rfl, s, g⟩
    walk_at "step"
    refine ⟨sl64 (by simp), fun t ht => ?_⟩
    have s2 := s.lay ht (.tup [.ref pS, .ref pH, .ref pT])
    rw [ec] at g
    exact q t pS pH pT S Hs T _ s2.sm upd_same s2.hS s2.hH s2.hT g

end My

namespace My
open PySem L2
variable {K : PySem.W.Frag} {vs : List V} {H : Hp} {Q : VK} {E : XK}
theorem fixs_sDa : ∀ xs : List Str, fixs (sDa xs) = true
  | [] => by show fixs [] = true; rw [fixs]
  | x :: xs => by show fixs (.str x :: sDa xs) = true; rw [fixs, fixs_sDa xs, fix]; rfl
theorem fix_row (r : Row) : fix r.da = true := by
  unfold Row.da
  simp [fix, fixs, fixs_sDa]
theorem fix_rows : ∀ rs : List Row, fixs (rs.map Row.da) = true
  | [] => by show fixs [] = true; rw [fixs]
  | r :: rs => by show fixs (r.da :: rs.map Row.da) = true; rw [fixs, fix_row, fix_rows rs]; rfl
theorem dvs_ins {H : Hp} {d : PyData} {v : V} (h : Dv K H d v) : ∀ {ds : List PyData} {vs : List V} (k : Nat), Dvs K H ds vs → Dvs K H (insAt ds k d) (insAt vs k v)
  | ds, vs, 0, t => by unfold insAt; simpa using dvs_cons h t
  | [], vs, k + 1, t => by
    rw [Dvs] at t; subst t
    unfold insAt; simpa using dvs_cons h dvs_nil
  | e :: ds, vs, k + 1, t => by
    rw [Dvs] at t
    obtain ⟨w, r, rfl, h1, h2⟩ := t
    have := dvs_ins h k h2
    unfold insAt at this ⊢
    simpa using dvs_cons h1 this
theorem ins_map {α β : Type} (f : α → β) (l : List α) (k : Nat) (x : α) : insAt (l.map f) k (f x) = (insAt l k x).map f := by
  unfold insAt; simp [List.map_take, List.map_drop]
theorem ins_perm {α : Type} (l : List α) (k : Nat) (x : α) : (insAt l k x).Perm (x :: l) := by
  unfold insAt
  have := List.perm_middle (l₁ := l.take k) (l₂ := l.drop k) (a := x)
  rwa [List.take_append_drop] at this
/-- a drawn book -/
structure Boo (rs : List Row) : Prop where
  l1 : 1 ≤ rs.length
  l2 : rs.length ≤ 12
  nd : (rs.map (·.name)).Nodup
  ne : ∀ r ∈ rs, r.name ≠ ("" : Str)
  rk : ∃ rk : Str → Nat, (∀ r ∈ rs, rk r.name < 12) ∧ ∀ r ∈ rs, r.sort = ("frame" : Str) → (∃ r' ∈ rs, r'.name = r.host ∧ isPF r'.sort) ∧ rk r.name < rk r.host
  noh : ∀ r ∈ rs, r.sort ≠ ("frame" : Str) → r.host = ("" : Str)
  uq : ∀ r ∈ rs, ∀ r' ∈ rs, r.sort = ("frame" : Str) → r'.sort = ("frame" : Str) → r.host = r'.host → r.name = r'.name
  srt : ∀ r ∈ rs, isSort r.sort
  nosh : ∀ r ∈ rs, ∀ x ∈ r.shuts, ∀ f ∈ rs, f.sort = ("frame" : Str) → f.host ≠ x
structure RA (names S Hs : List Str) (T : List Nat) (c j : Nat) (r : Row) : Prop where
  sh : ∀ x ∈ r.shuts, ∃ i, i < c ∧ i ∉ T ∧ x = gd names i
  name : r.name = gd names j
  sort : r.sort = gd S j
  host : r.host = gd Hs j
theorem idx_gd {names : List Str} (hn : names.Nodup) {j : Nat} (hj : j < names.length) : names.idxOf (gd names j) = j := by
  have e : gd names j = names[j] := by have := gd_get hj; rw [List.getElem?_eq_getElem hj] at this; exact (Option.some.inj this).symm
  rw [e]; exact hn.idxOf_getElem j hj
theorem boo_of {names S Hs : List Str} {T : List Nat} {c : Nat} {rs l : List Row} (hn : Nms names) (hcn : c ≤ names.length) (hn12 : names.length ≤ 12) (h1 : 1 ≤ c) (g : Srt names c S Hs T c) (p : rs.Perm l) (hl : l.length = c) (ra : ∀ j r, l[j]? = some r → RA names S Hs T c j r) : Boo rs := by
  have at_ : ∀ r ∈ rs, ∃ j, j < c ∧ RA names S Hs T c j r ∧ l[j]? = some r := fun r hr => by
    obtain ⟨j, hj, e⟩ := List.getElem_of_mem (p.mem_iff.mp hr)
    have e2 : l[j]? = some r := by rw [List.getElem?_eq_getElem hj, e]
    exact ⟨j, by omega, ra j r e2, e2⟩
  have lp := p.length_eq
  refine ⟨by omega, by omega, ?_, fun r hr => ?_, ⟨names.idxOf, fun r hr => ?_, fun r hr hf => ?_⟩, fun r hr hf => ?_, fun r hr r' hr' hf hf' e => ?_, fun r hr => ?_, fun r hr x hx f hf hs e => ?_⟩
  · refine (p.map _).nodup_iff.mpr ?_
    have e : l.map (·.name) = names.take c := by
      apply List.ext_getElem?
      intro i
      rw [List.getElem?_map, List.getElem?_take]
      by_cases hi : i < c
      · have e1 : l[i]? = some l[i] := List.getElem?_eq_getElem (by omega)
        rw [if_pos hi, e1, gd_get (by omega)]
        show some (l[i].name) = _
        rw [(ra i _ e1).name]
      · rw [if_neg hi, List.getElem?_eq_none_iff.mpr (by omega)]; rfl
    rw [e]
    exact hn.nd.sublist (List.take_sublist _ _)
  · obtain ⟨j, hj, R, _⟩ := at_ r hr
    rw [R.name]; exact hn.ne _ (gd_mem (by omega))
  · obtain ⟨j, hj, R, _⟩ := at_ r hr
    rw [R.name]
    show names.idxOf (gd names j) < 12
    rw [idx_gd hn.nd (by omega)]; omega
  · obtain ⟨i, hi, R, _⟩ := at_ r hr
    obtain ⟨j, h1, h2, h3, h4, _⟩ := g.host i hi hi (by rw [← R.sort]; exact hf)
    have ej : l[j]? = some l[j] := List.getElem?_eq_getElem (by omega)
    have Rj := ra j _ ej
    refine ⟨⟨l[j], p.mem_iff.mpr (List.mem_of_getElem? ej), ?_, by rw [Rj.sort]; exact h4⟩, ?_⟩
    · rw [Rj.name, R.host, h3]
    · rw [R.name, R.host, h3]
      show names.idxOf (gd names i) < names.idxOf (gd names j)
      rw [idx_gd hn.nd (by omega), idx_gd hn.nd (by omega)]; exact h1
  · obtain ⟨i, hi, R, _⟩ := at_ r hr
    rw [R.host]; exact g.no i hi (.inr (by rw [← R.sort]; exact hf))
  · obtain ⟨i, hi, R, _⟩ := at_ r hr
    obtain ⟨j, hj, R', _⟩ := at_ r' hr'
    have := g.uq i j hi hj hi hj (by rw [← R.sort]; exact hf) (by rw [← R'.sort]; exact hf') (by rw [← R.host, ← R'.host]; exact e)
    rw [R.name, R'.name, this]
  · obtain ⟨i, hi, R, _⟩ := at_ r hr
    rw [R.sort]; exact g.srt _ (gd_mem (by rw [g.ls]; exact hi))
  · obtain ⟨i, hi, R, _⟩ := at_ r hr
    obtain ⟨j, hj, Rf, _⟩ := at_ f hf
    obtain ⟨m, hm, hmT, rfl⟩ := R.sh x hx
    obtain ⟨k, _, hk, e2, _, hkT⟩ := g.host j hj hj (by rw [← Rf.sort]; exact hs)
    rw [Rf.host, e2] at e
    have := gd_inj hn.nd (by omega) (by omega) e
    subst this
    exact hmT hkT
theorem natV_get {js : List Nat} {i : Nat} {x : V} (h : (natV js)[i]? = some x) : ∃ j : Nat, js[i]? = some j ∧ x = .int (j : Int) := by
  unfold natV at h
  rw [List.getElem?_map] at h
  obtain ⟨y, hy, e⟩ := Option.map_eq_some_iff.mp h
  exact ⟨y, hy, e.symm⟩
def sp__law_book (K : PySem.W.Frag) : Sp := fun vs H Q _ => ∃ (sc : Addr) (ns : List Int), vs = [.ref sc] ∧ SqL K H sc (ns.map V.int) ∧ ∀ (t : Addr) (us : List V) (rs : List Row) (H' : Hp), Same H H' → H' t = some (.tup us) → Dvs K H' (rs.map Row.da) us → Boo rs → Q (.ref t) H'
theorem len__law_book (K : PySem.W.Frag) : ∀ vs H Q E, sp__law_book K vs H Q E → vs.length = ["_law_script"].length := by rintro vs H Q E ⟨sc, ns, rfl, _⟩; rfl
def R__law_book (K : PySem.W.Frag) : TS :=
 (tSeq (tAsg (tCall (sp__law_names K) [] E0 (tCons (tCall (sp__law_cell_at K) [] E0 (tCons (tVar 0) (tCons (tC (.int 0)) tNil))) tNil)) (gName 1))
 (tSeq (tAsg (tOp (rAddA K) (tC (.int 1)) (tOp (rI (fun _ j => 0 < j) fun i j => .int (i % j)) (tCall (sp__law_cell_at K) [] E0 (tCons (tVar 0) (tCons (tC (.int 1)) tNil))) (tC (.int 12)))) (gName 2))
 (tSeq (tAsg (tCall (sp__law_sorts K) [] E0 (tCons (tVar 0) (tCons (tVar 1) (tCons (tVar 2) tNil)))) (gTup K 3 (gCons (gName 3) (gCons (gName 4) (gCons (gName 5) gNil)))))
 (tSeq (tAsg (tLst tNil) (gName 6))
 (tSeq (tFor (iRng1 (tCons (tVar 2) tNil)) (gName 7)
 (tSeq (tAsg (tCall (sp__law_cell_at K) [] E0 (tCons (tVar 0) (tCons (tOp (rAddA K) (tC (.int 2)) (tVar 7)) tNil))) (gName 8))
 (tSeq (tAsg (tComp [some 3, none] (iRng1 (tCons (tVar 2) tNil)) (gName 1) (tTest (tOp (rInB K false) (tOp (rIxA K) (tVar 0) (tVar 1)) (tTup (tCons (tC (.str ("plain" : Str))) (tCons (tC (.str ("anew" : Str))) tNil))))) (tVar 1)) (gName 9))
 (tSeq (tAsg (tComp [some 1, some 5, some 7, some 8, none] (iAny K (tVar 9)) (gName 4) (tAnd (tTest (tOp (rInB K true) (tVar 4) (tVar 1))) (tAnd (tTest (tOp (rInB K true) (tVar 2) (tVar 1))) (tTest (tOp (rEqA K) (tOp (rI (fun _ j => 0 < j) fun i j => .int (i % j)) (tCall (sp__law_mixed K) [] E0 (tCons (tVar 3) (tCons (tOp (rAddA K) (tC (.int 3)) (tVar 4)) tNil))) (tC (.int 5))) (tC (.int 0)))))) (tOp (rIxA K) (tVar 0) (tVar 4))) (gName 10))
 (tSeq (tAsg (tComp [some 1, some 8, none] (iAny K (tVar 9)) (gName 2) (tTest (tOp (rEqA K) (tOp (rI (fun _ j => 0 < j) fun i j => .int (i % j)) (tCall (sp__law_mixed K) [] E0 (tCons (tVar 1) (tCons (tOp (rAddA K) (tC (.int 20)) (tVar 2)) tNil))) (tC (.int 8))) (tC (.int 0)))) (tOp (rIxA K) (tVar 0) (tVar 2))) (gName 11))
 (tSeq (tAsg (tTup (tCons (tOp (rIxA K) (tVar 1) (tVar 7)) (tCons (tOp (rIxA K) (tVar 3) (tVar 7)) (tCons (tOp (rIxA K) (tVar 4) (tVar 7)) (tCons (tCB (rTupleA K) (tCons (tCB (rSortedS K) (tCons (tVar 10) tNil)) tNil)) (tCons (tCB (rTupleA K) (tCons (tCB (rSortedS K) (tCons (tVar 11) tNil)) tNil)) tNil)))))) (gName 12))
 (tDrop (tBM K "list" rInsert (tVar 6) (tCons (tOp (rI (fun _ j => 0 < j) fun i j => .int (i % j)) (tCall (sp__law_mixed K) [] E0 (tCons (tVar 8) (tCons (tC (.int 32)) tNil))) (tOp (rAddA K) (tVar 7) (tC (.int 1)))) (tCons (tVar 12) tNil))))))))))
 (tRet (tCB (rTupleA K) (tCons (tVar 6) tNil))))))))
theorem rd__law_book (h : sp__law_book K vs H Q E) : R__law_book K { nx := fun _ H' => Q .non H', rt := Q } (start ["_law_script", "_law_names_here", "_law_count", "_law_sorts_here", "_law_hosts_here", "_law_taken", "_law_rows", "_law_k", "_law_own", "_law_able", "_law_shuts", "_law_bars", "_law_row_here"] vs) H := by
  obtain ⟨sc, ns, rfl, hS, q⟩ := h
  show R__law_book K _ [some (.ref sc), none, none, none, none, none, none, none, none, none, none, none, none] H
  unfold R__law_book
  walk_at "step"
  refine ⟨sc, ns, 0, rfl, hS, by decide, fun c0 => ?_⟩
  walk_at "step"
  refine ⟨c0, rfl, fun nm names H1 s1 hn0 hN hN12 nN => ?_⟩
  walk_at "step"
  refine ⟨sc, ns, 1, rfl, s1.sqL hS, by decide, fun c1 => ?_⟩
  walk_at "step"
  have m0 := Int.emod_nonneg c1 (show (12 : Int) ≠ 0 by decide)
  have m1 := Int.emod_lt_of_pos c1 (show (0 : Int) < 12 by decide)
  obtain ⟨c, hc, hc1, hc12⟩ : ∃ c : Nat, (1 : Int) + c1 % 12 = (c : Int) ∧ 1 ≤ c ∧ c ≤ 12 := ⟨((1 : Int) + c1 % 12).toNat, by omega, by omega, by omega⟩
  rw [hc]
  refine ⟨sc, nm, ns, names, c, rfl, s1.sqL hS, hN, nN, by omega, hc12, fun t3 pS pH pT S Hs T H2 s2 ht3 hpS hpH hpT g => ?_⟩
  refine ⟨t3, _, rfl, SqT.of ht3, rfl, _, _, rfl, st_name ⟨_, _, rfl, st_name ⟨_, _, rfl, st_name ⟨rfl, ?_⟩⟩⟩⟩
  walk_at "step"
  refine ⟨sl64 (by simp), fun pr hpr => ?_⟩
  walk_at "step"
  have sA : Same H H2 := Same.tr s1 s2
  refine rng1_for (by omega) (by omega) (fun i σ H' => ∃ (a7 a8 a9 a10 a11 a12 : Option V) (us : List V) (rs l : List Row), σ = [some (.ref sc), some (.ref nm), some (.int c), some (.ref pS), some (.ref pH), some (.ref pT), some (.ref pr), a7, a8, a9, a10, a11, a12] ∧ Same H2 H' ∧ H' pr = some (.lst us) ∧ Dvs K H' (rs.map Row.da) us ∧ rs.Perm l ∧ l.length = i ∧ ∀ j r, l[j]? = some r → RA names S Hs T c j r) ?_ ?_ ?_
  · exact ⟨none, none, none, none, none, none, [], [], [], rfl, Same.new hpr _, upd_same, dvs_nil, .nil, rfl, fun j r h => by simp at h⟩
  · rintro i σ H' hi ⟨a7, a8, a9, a10, a11, a12, us, rs, l, rfl, s3, hr, dv, pm, hl, ra⟩
    have rl : us.length = i := by rw [dv.length, List.length_map, pm.length_eq, hl]
    walk_at "step"
    refine ⟨sc, ns, _, rfl, s3.sqL (sA.sqL hS), by omega, fun own => ?_⟩
    walk_at "step"
    refine rng1_comp (by omega) (by omega) (fun m ys H'' => Same H' H'' ∧ ∃ js : List Nat, ys = natV js ∧ js.length ≤ m ∧ ∀ j ∈ js, j < c) ⟨Same.refl _, [], rfl, Nat.le_refl _, by simp⟩ ?_ ?_ ?_
    · rintro m ys H'' hm ⟨_, js, rfl, hjl, _⟩
      rw [natV_len]; exact sl64 (by omega)
    · rintro m ys H'' hm ⟨s4, js, rfl, hjl, hjs⟩
      walk_at "step"
      refine v_ixL (SqL.of (s4 _ _ (s3 _ _ hpS))) (at_str (by rw [g.ls]; omega)) ?_
      walk_at "step"
      refine ⟨sl64 (by simp), fun t ht => ?_⟩
      refine .inl (v_in (xs := strV [("plain" : Str), ("anew" : Str)]) (.inr (SqT.of upd_same)) rfl (flat_strV _) ?_)
      rw [inV_strV]
      walk_at "step"
      by_cases hp : gd S m ∈ [("plain" : Str), ("anew" : Str)]
      · rw [decide_eq_true hp]
        refine iteT ?_
        walk_at "step"
        refine ⟨Same.tr s4 (Same.new ht _), js ++ [m], natV_app _ _, by rw [List.length_append, List.length_singleton]; omega, fun j hj => ?_⟩
        rcases List.mem_append.mp hj with h | h
        · exact hjs j h
        · rw [List.mem_singleton.mp h]; omega
      · rw [decide_eq_false hp]
        refine iteF ?_
        exact ⟨Same.tr s4 (Same.new ht _), js, rfl, by omega, hjs⟩
    rintro ys H3 ⟨s4, js, rfl, hjl, hjs⟩ pa hpa
    have jl : js.length ≤ 12 := by omega
    walk_at "step"
    have s5 : Same H' (upd H3 pa (.lst (natV js))) := Same.tr s4 (Same.new hpa _)
    have ha : (upd H3 pa (.lst (natV js))) pa = some (.lst (natV js)) := upd_same
    generalize upd H3 pa (.lst (natV js)) = H4 at *
    refine any_compL (xs := natV js) (SqL.of ha) (fun m ys H'' => H'' = H4 ∧ ∃ zs : List Str, ys = strV zs ∧ zs.length ≤ m ∧ ∀ z ∈ zs, ∃ i, i < c ∧ i ∉ T ∧ z = gd names i) ⟨rfl, [], rfl, Nat.le_refl _, by simp⟩ ?_ ?_ ?_ ?_
    · rintro m ys H'' hm ⟨_, zs, rfl, hz, _⟩
      rw [natV_len] at hm
      rw [strV_len]; exact sl64 (by omega)
    · rintro m ys H'' hm ⟨rfl, _⟩
      exact SqL.of ha
    · rintro m x ys H'' hx ⟨rfl, zs, rfl, hz, hzT⟩
      obtain ⟨j, hj, rfl⟩ := natV_get hx
      have hjc := hjs j (List.mem_of_getElem? hj)
      have sT : H'' pT = some (.lst (natV T)) := s5 _ _ (s3 _ _ hpT)
      have stop : (fun H' => H' = H'' ∧ ∃ zs' : List Str, strV zs = strV zs' ∧ zs'.length ≤ m + 1 ∧ ∀ z ∈ zs', ∃ i, i < c ∧ i ∉ T ∧ z = gd names i) H'' := ⟨rfl, zs, rfl, by omega, hzT⟩
      walk_at "step"
      refine .inl (v_notin (.inl (SqL.of sT)) rfl (flat_natV _) ?_)
      rw [inV_natV]
      walk_at "step"
      by_cases h1 : j ∈ T
      · rw [decide_eq_true h1]
        refine iteF ?_
        refine iteF ?_
        exact stop
      · rw [decide_eq_false h1]
        refine iteT ?_
        walk_at "step"
        refine .inl (v_notin (.inl (SqL.of sT)) rfl (flat_natV _) ?_)
        rw [inV_natV]
        walk_at "step"
        by_cases h2 : i ∈ T
        · rw [decide_eq_true h2]
          refine iteF ?_
          refine iteF ?_
          exact stop
        · rw [decide_eq_false h2]
          refine iteT ?_
          walk_at "step"
          refine ⟨own, _, rfl, by omega, by omega, fun n5 hn5 => ?_⟩
          walk_at "step"
          by_cases h3 : n5 % 5 = 0
          · rw [decide_eq_true h3]
            refine iteT ?_
            walk_at "step"
            refine v_ixL (SqL.of (s5 _ _ (s3 _ _ (s2 _ _ hN)))) (at_str (by omega)) ?_
            refine ⟨rfl, zs ++ [gd names j], strV_app _ _, by rw [List.length_append, List.length_singleton]; omega, fun z hz2 => ?_⟩
            rcases List.mem_append.mp hz2 with h | h
            · exact hzT z h
            · exact ⟨j, hjc, h1, List.mem_singleton.mp h⟩
          · rw [decide_eq_false h3]
            refine iteF ?_
            exact stop
    rintro ys H5 ⟨rfl, zs1, rfl, hz1, hz1T⟩ p10 hp10
    rw [natV_len] at hz1
    walk_at "step"
    have s6 : Same H' (upd H5 p10 (.lst (strV zs1))) := Same.tr s5 (Same.new hp10 _)
    have h10 : (upd H5 p10 (.lst (strV zs1))) p10 = some (.lst (strV zs1)) := upd_same
    have ha6 : (upd H5 p10 (.lst (strV zs1))) pa = some (.lst (natV js)) := by rw [upd_ne (ne_free ha hp10)]; exact ha
    generalize upd H5 p10 (.lst (strV zs1)) = H6 at *
    refine any_compL (xs := natV js) (SqL.of ha6) (fun m ys H'' => H'' = H6 ∧ ∃ zs : List Str, ys = strV zs ∧ zs.length ≤ m) ⟨rfl, [], rfl, Nat.le_refl _⟩ ?_ ?_ ?_ ?_
    · rintro m ys H'' hm ⟨_, zs, rfl, hz⟩
      rw [natV_len] at hm
      rw [strV_len]; exact sl64 (by omega)
    · rintro m ys H'' hm ⟨rfl, _⟩
      exact SqL.of ha6
    · rintro m x ys H'' hx ⟨rfl, zs, rfl, hz⟩
      obtain ⟨j, hj, rfl⟩ := natV_get hx
      have hjc := hjs j (List.mem_of_getElem? hj)
      walk_at "step"
      refine ⟨own, _, rfl, by omega, by omega, fun n5 hn5 => ?_⟩
      walk_at "step"
      by_cases h3 : n5 % 8 = 0
      · rw [decide_eq_true h3]
        refine iteT ?_
        walk_at "step"
        refine v_ixL (SqL.of (s6 _ _ (s3 _ _ (s2 _ _ hN)))) (at_str (by omega)) ?_
        exact ⟨rfl, zs ++ [gd names j], strV_app _ _, by rw [List.length_append, List.length_singleton]; omega⟩
      · rw [decide_eq_false h3]
        refine iteF ?_
        exact ⟨rfl, zs, rfl, by omega⟩
    rintro ys H7 ⟨rfl, zs2, rfl, hz2⟩ p11 hp11
    rw [natV_len] at hz2
    walk_at "step"
    have s7 : Same H' (upd H7 p11 (.lst (strV zs2))) := Same.tr s6 (Same.new hp11 _)
    have h11 : (upd H7 p11 (.lst (strV zs2))) p11 = some (.lst (strV zs2)) := upd_same
    have h10b : (upd H7 p11 (.lst (strV zs2))) p10 = some (.lst (strV zs1)) := by rw [upd_ne (ne_free h10 hp11)]; exact h10
    generalize upd H7 p11 (.lst (strV zs2)) = H8 at *
    refine v_ixL (SqL.of (s7 _ _ (s3 _ _ (s2 _ _ hN)))) (at_str (by omega)) ?_
    walk_at "step"
    refine v_ixL (SqL.of (s7 _ _ (s3 _ _ hpS))) (at_str (by rw [g.ls]; omega)) ?_
    walk_at "step"
    refine v_ixL (SqL.of (s7 _ _ (s3 _ _ hpH))) (at_str (by rw [g.lh]; omega)) ?_
    walk_at "step"
    refine ⟨p10, zs1, rfl, SqL.of h10b, by omega, fun q1 zs1' pe1 _ hq1 => ?_⟩
    walk_at "step"
    refine ⟨q1, _, rfl, .inl ⟨SqL.of upd_same, fun t1 ht1 => ?_⟩⟩
    walk_at "step"
    have sB : Same H8 (upd (upd H8 q1 (.lst (strV zs1'))) t1 (.tup (strV zs1'))) := Same.tr (Same.new hq1 _) (Same.new ht1 _)
    have htt1 : (upd (upd H8 q1 (.lst (strV zs1'))) t1 (.tup (strV zs1'))) t1 = some (.tup (strV zs1')) := upd_same
    generalize upd (upd H8 q1 (.lst (strV zs1'))) t1 (.tup (strV zs1')) = H9 at *
    refine ⟨p11, zs2, rfl, SqL.of (sB _ _ h11), by omega, fun q2 zs2' pe2 _ hq2 => ?_⟩
    walk_at "step"
    refine ⟨q2, _, rfl, .inl ⟨SqL.of upd_same, fun t2 ht2 => ?_⟩⟩
    walk_at "step"
    have sC : Same H9 (upd (upd H9 q2 (.lst (strV zs2'))) t2 (.tup (strV zs2'))) := Same.tr (Same.new hq2 _) (Same.new ht2 _)
    have htt2 : (upd (upd H9 q2 (.lst (strV zs2'))) t2 (.tup (strV zs2'))) t2 = some (.tup (strV zs2')) := upd_same
    have htt1c := sC _ _ htt1
    generalize upd (upd H9 q2 (.lst (strV zs2'))) t2 (.tup (strV zs2')) = H10 at *
    refine ⟨sl64 (by simp), fun tr htr => ?_⟩
    have sD : Same H10 (upd H10 tr (.tup [.str (gd names i), .str (gd S i), .str (gd Hs i), .ref t1, .ref t2])) := Same.new htr _
    have htt : (upd H10 tr (.tup [.str (gd names i), .str (gd S i), .str (gd Hs i), .ref t1, .ref t2])) tr = some (.tup [.str (gd names i), .str (gd S i), .str (gd Hs i), .ref t1, .ref t2]) := upd_same
    have htt1d := sD _ _ htt1c
    have htt2d := sD _ _ htt2
    generalize upd H10 tr (.tup [.str (gd names i), .str (gd S i), .str (gd Hs i), .ref t1, .ref t2]) = H11 at *
    have sE : Same H' H11 := Same.tr s7 (Same.tr sB (Same.tr sC sD))
    walk_at "step"
    refine ⟨.inl ⟨rfl, _, SqL.of (sE _ _ hr)⟩, ?_⟩
    walk_at "step"
    refine ⟨own, 32, rfl, by decide, by decide, fun n9 hn9 => ?_⟩
    walk_at "step"
    have i0 := Int.emod_nonneg n9 (show (i : Int) + 1 ≠ 0 by omega)
    have i1 := Int.emod_lt_of_pos n9 (show (0 : Int) < (i : Int) + 1 by omega)
    have hr11 := sE _ _ hr
    refine v_insert hr11 i0 (by omega) (by rw [sizeLine_eq]; omega) ?_
    walk_at "step"
    have tkF := tupK_lst (ys := insAt us (n9 % ((i : Int) + 1)).toNat (V.ref tr)) hr11
    have dvr : Dv K H11 (Row.da ⟨gd names i, gd S i, gd Hs i, zs1', zs2'⟩) (.ref tr) := dv_tuple.mpr ⟨tr, _, rfl, SqT.of htt, dvs_cons (dv_str.mpr rfl) (dvs_cons (dv_str.mpr rfl) (dvs_cons (dv_str.mpr rfl) (dvs_cons (dv_tuple.mpr ⟨t1, _, rfl, SqT.of htt1d, dvs_sDa.mpr rfl⟩) (dvs_cons (dv_tuple.mpr ⟨t2, _, rfl, SqT.of htt2d, dvs_sDa.mpr rfl⟩) dvs_nil))))⟩
    refine ⟨_, _, _, _, _, _, _, insAt rs (n9 % ((i : Int) + 1)).toNat ⟨gd names i, gd S i, gd Hs i, zs1', zs2'⟩, l ++ [⟨gd names i, gd S i, gd Hs i, zs1', zs2'⟩], rfl, ?_, upd_same, ?_, ?_, by simp [hl], fun j r hj => ?_⟩
    · exact Same.put (Same.tr s3 sE) hpr _
    · rw [← ins_map]
      exact dvs_ins (Dv.tupK tkF _ _ (fix_row _) dvr) _ (Dvs.tupK tkF _ _ (fix_rows _) (Dvs.same sE _ _ dv))
    · exact (ins_perm _ _ _).trans ((List.Perm.cons _ pm).trans (List.perm_append_singleton _ _).symm)
    · by_cases hj2 : j < l.length
      · rw [List.getElem?_append_left hj2] at hj; exact ra j r hj
      · rw [List.getElem?_append_right (by omega)] at hj
        have e0 : j - l.length = 0 := by
          have := (List.getElem?_eq_some_iff.mp hj).1
          simp at this; omega
        rw [e0] at hj
        have : j = i := by omega
        subst this
        cases hj
        exact ⟨fun x hx => hz1T x (pe1.mem_iff.mp hx), rfl, rfl, rfl⟩
  · rintro σ H' ⟨a7, a8, a9, a10, a11, a12, us, rs, l, rfl, s3, hr, dv, pm, hl, ra⟩
    walk_at "step"
    refine ⟨pr, us, rfl, .inl ⟨SqL.of hr, fun t ht => ?_⟩⟩
    exact q t us rs _ (Same.tr sA (Same.tr s3 (Same.new ht _))) upd_same (Dvs.same (Same.new ht _) _ _ dv) (boo_of nN (by omega) (by omega) hc1 g pm (by omega) ra)

end My

namespace My
open PySem L2
variable {K : PySem.W.Frag} {vs : List V} {H : Hp} {Q : VK} {E : XK}
theorem eqv_strs (xs : List Str) : PyData.eqv (.list (sDa xs)) (.list []) = decide (xs = []) := by
  rw [PyData.eqv]
  cases xs with
  | nil => show PyData.eqvAll [] [] = _; rw [PyData.eqvAll]; rfl
  | cons j js => show PyData.eqvAll (.str j :: sDa js) [] = _; rw [PyData.eqvAll]; simp
theorem depth_strs : ∀ xs : List Str, PyData.depthAll (sDa xs) = 0
  | [] => by show PyData.depthAll [] = 0; rw [PyData.depthAll]
  | j :: js => by
    show PyData.depthAll (.str j :: sDa js) = 0
    rw [PyData.depthAll, depth_strs js, PyData.depth]; rfl

theorem Rws.same {v : V} {rs : List Row} {H' : Hp} (h : Rws K H v rs) (s : Same H H') : Rws K H' v rs := by
  obtain ⟨a, vs, rfl, hq, hd⟩ := h
  exact ⟨a, vs, rfl, hq.imp s.sqL s.sqT, Dvs.same s _ _ hd⟩
theorem row_some {rs : List Row} {n : Str} {r : Row} (h : rowOf rs (some n) = some r) : r ∈ rs ∧ r.name = n := by
  refine ⟨List.mem_of_find?_eq_some h, ?_⟩
  have := List.find?_some h
  simpa using this
theorem row_ex {rs : List Row} {n : Str} (h : ∃ r ∈ rs, r.name = n) : ∃ r, rowOf rs (some n) = some r ∧ r ∈ rs ∧ r.name = n := by
  cases e : rowOf rs (some n) with
  | none =>
    obtain ⟨r, hr, hn⟩ := h
    have := List.find?_eq_none.mp e r hr
    simp [hn] at this
  | some r => exact ⟨r, rfl, row_some e⟩
theorem row_is {rs : List Row} (nd : (rs.map (·.name)).Nodup) {r r' : Row} (h : r ∈ rs) (h' : r' ∈ rs) (e : r.name = r'.name) : r = r' := by
  induction rs with
  | nil => cases h
  | cons x l ih =>
    rw [List.map_cons, List.nodup_cons] at nd
    rcases List.mem_cons.mp h with h | h
    · rcases List.mem_cons.mp h' with h' | h'
      · rw [h, h']
      · exact absurd (List.mem_map.mpr ⟨r', h', by rw [← e, h]⟩) nd.1
    · rcases List.mem_cons.mp h' with h' | h'
      · exact absurd (List.mem_map.mpr ⟨r, h, by rw [e, h']⟩) nd.1
      · exact ih nd.2 h h'
theorem rowOf_mem {rs : List Row} (nd : (rs.map (·.name)).Nodup) {r : Row} (h : r ∈ rs) : rowOf rs (some r.name) = some r := by
  obtain ⟨r', e, h', en⟩ := row_ex ⟨r, h, rfl⟩
  rw [e, row_is nd h' h en]
theorem any_forS {g : TG} {tb : TS} {D : Ends} {σ : St} {H0 : Hp} {a : Addr} {xs : List V} (hq : SqL K H0 a xs ∨ SqT K H0 a xs) (s0 : Same H0 H) (Pv : Nat → St → Hp → Prop) (h0 : Pv 0 σ H) (hk : ∀ i σ H', Pv i σ H' → Same H0 H')
    (hs : ∀ i x σ H, xs[i]? = some x → Pv i σ H → g x σ H fun σ2 H2 => tb { D with nx := Pv (i + 1), ct := Pv (i + 1), bk := D.nx } σ2 H2) (hd : ∀ σ H, Pv xs.length σ H → D.nx σ H) :
    ∃ b, V.ref a = .ref b ∧ (((∃ xs, SqL K H b xs) ∧ ForW g tb D σ (Itl K b) H) ∨ ((∃ xs, SqT K H b xs) ∧ ForW g tb D σ (Itt K b) H)) := by
  rcases hq with hq | hq
  · exact ⟨a, rfl, .inl ⟨⟨xs, s0.sqL hq⟩, for_list Pv h0 (fun i σ H' _ p => (hk i σ H' p).sqL hq) hs hd⟩⟩
  · exact ⟨a, rfl, .inr ⟨⟨xs, s0.sqT hq⟩, for_tup Pv h0 (fun i σ H' _ p => (hk i σ H' p).sqT hq) hs hd⟩⟩
def frS (rs : List Row) (n : Str) : Str := if n = ("" : Str) then ("" : Str) else (frameOf rs (some n)).getD ("" : Str)
def wall (rs : List Row) (n : Str) : Bool := match rowOf rs (some n) with | none => false | some r => decide (r.sort ∈ [("room" : Str), ("frame" : Str)])
def near (rs : List Row) (ns : List Str) : List Str := ns.foldl (fun acc n => if wall rs n then [] else acc ++ [n]) []
theorem near_snoc (rs : List Row) (ns : List Str) (n : Str) : near rs (ns ++ [n]) = if wall rs n then [] else near rs ns ++ [n] := by
  unfold near; rw [List.foldl_append]; rfl

theorem near_len (rs : List Row) : ∀ (k : Nat) (ns : List Str), ns.length = k → (near rs ns).length ≤ k
  | 0, ns, h => by rw [List.length_eq_zero_iff.mp h]; exact Nat.le_refl _
  | k + 1, ns, h => by
    have hp : ns ≠ [] := fun e => by rw [e] at h; cases h
    rw [← List.dropLast_concat_getLast hp, near_snoc]
    have := near_len rs k ns.dropLast (by rw [List.length_dropLast]; omega)
    split
    · exact Nat.zero_le _
    · rw [List.length_append, List.length_singleton]; omega
def sp__law_row (K : PySem.W.Frag) : Sp := sp_row_of K
theorem len__law_row (K : PySem.W.Frag) : ∀ vs H Q E, sp__law_row K vs H Q E → vs.length = ["_law_book_here", "_law_name"].length := by rintro vs H Q E ⟨v, n, rs, rfl, _⟩; rfl
def R__law_row (K : PySem.W.Frag) : TS :=
 (tSeq (tFor (iAny K (tVar 0)) (gName 2)
 (tIfS (tTest (tOp (rEqA K) (tOp (rIxA K) (tVar 2) (tC (.int 0))) (tVar 1)))
 (tRet (tVar 2)) tNext))
 (tRet (tC .non)))
theorem rd__law_row (h : sp__law_row K vs H Q E) : R__law_row K { nx := fun _ H' => Q .non H', rt := Q } (start ["_law_book_here", "_law_name", "_law_row_here"] vs) H := by
  exact rd_row_of h

def sp__law_frame (K : PySem.W.Frag) : Sp := fun vs H Q _ => ∃ v n rs, vs = [v, .str n] ∧ Rws K H v rs ∧ Boo rs ∧ Q (.str (frS rs n)) H
theorem len__law_frame (K : PySem.W.Frag) : ∀ vs H Q E, sp__law_frame K vs H Q E → vs.length = ["_law_book_here", "_law_name"].length := by rintro vs H Q E ⟨v, n, rs, rfl, _⟩; rfl
def R__law_frame (K : PySem.W.Frag) : TS :=
 (tSeq (tFor (iAny K (tVar 0)) (gName 2)
 (tIfS (tAnd (tTest (tOp (rEqA K) (tOp (rIxA K) (tVar 2) (tC (.int 2))) (tVar 1))) (tTest (tOp (rNeA K) (tVar 1) (tC (.str ("" : Str))))))
 (tRet (tOp (rIxA K) (tVar 2) (tC (.int 0)))) tNext))
 (tRet (tC (.str ("" : Str)))))
theorem rd__law_frame (h : sp__law_frame K vs H Q E) : R__law_frame K { nx := fun _ H' => Q .non H', rt := Q } (start ["_law_book_here", "_law_name", "_law_row_here"] vs) H := by
  obtain ⟨v, n, rs, rfl, ⟨a, xs, rfl, hq, hd⟩, B, q⟩ := h
  show R__law_frame K _ [some (.ref a), some (.str n), none] H
  unfold R__law_frame
  have hlen : xs.length = rs.length := by have := hd.length; simpa using this
  have ef : ∀ r ∈ rs, n ≠ ("" : Str) → (decide (r.sort = ("frame" : Str)) && decide (some r.host = some n)) = decide (r.host = n) := fun r hr hn => by
    by_cases h : r.host = n
    · have : r.sort = ("frame" : Str) := by
        by_cases hs : r.sort = ("frame" : Str)
        · exact hs
        · exact absurd ((B.noh r hr hs).symm.trans h).symm hn
      rw [decide_eq_true h, decide_eq_true this, decide_eq_true (by rw [h])]; rfl
    · rw [decide_eq_false h, decide_eq_false (fun e => h (Option.some.inj e)), Bool.and_false]
  walk_at "step"
  refine any_for hq (fun i σ H' => H' = H ∧ (∃ w, σ = [some (.ref a), some (.str n), w]) ∧ (n ≠ ("" : Str) → ∀ r ∈ rs.take i, (decide (r.sort = ("frame" : Str)) && decide (some r.host = some n)) = false)) ⟨rfl, ⟨_, rfl⟩, by simp⟩ (fun hl i σ H' _ p => p.1 ▸ hl) (fun ht i σ H' _ p => p.1 ▸ ht) ?_ ?_
  · rintro i x σ H' hx ⟨rfl, ⟨w, rfl⟩, hn⟩
    obtain ⟨d, hd1, hd2⟩ := hd.get' hx
    rw [List.getElem?_map] at hd1
    obtain ⟨r, hr, rfl⟩ := Option.map_eq_some_iff.mp hd1
    have hrm : r ∈ rs := List.mem_of_getElem? hr
    obtain ⟨b, sv, bv, rfl, hb, hsv, hbv⟩ := row_parts hd2
    walk_at "step"
    refine v_ixT hb rfl ?_
    walk_at "step"
    by_cases e : r.host = n
    · rw [decide_eq_true e]; refine iteT ?_
      walk_at "step"
      by_cases h0 : n = ("" : Str)
      · rw [decide_eq_true h0, Bool.not_true]
        refine iteF ?_
        walk_at "step"
        exact ⟨rfl, ⟨_, rfl⟩, fun h => absurd h0 h⟩
      · rw [decide_eq_false h0, Bool.not_false]
        refine iteT ?_
        walk_at "step"
        refine v_ixT hb rfl ?_
        have : frS rs n = r.name := by
          unfold frS
          rw [if_neg h0]
          unfold frameOf
          rw [find_none_snoc hr (hn h0) (by rw [ef r hrm h0, decide_eq_true e])]; rfl
        rw [this] at q; exact q
    · rw [decide_eq_false e]; refine iteF ?_
      refine iteF ?_
      walk_at "step"
      refine ⟨rfl, ⟨_, rfl⟩, fun h0 => take_all hr (hn h0) (by rw [ef r hrm h0, decide_eq_false e])⟩
  · rintro σ H' ⟨rfl, ⟨w, rfl⟩, hn⟩
    walk_at "step"
    have : frS rs n = ("" : Str) := by
      unfold frS
      by_cases h0 : n = ("" : Str)
      · rw [if_pos h0]
      · rw [if_neg h0]
        have : frameOf rs (some n) = none := by
          unfold frameOf
          rw [List.find?_eq_none.mpr]
          · rfl
          · intro r hr
            have h1 := hn h0
            rw [hlen, List.take_length] at h1
            rw [h1 r hr]; exact Bool.false_ne_true
        rw [this]; rfl
    rw [this] at q; exact q

def sp__law_fence (K : PySem.W.Frag) : Sp := fun vs H Q _ => ∃ v n rs, vs = [v, .str n] ∧ Rws K H v rs ∧ ∀ H', Same H H' → Q (.bl (wall rs n)) H'
theorem len__law_fence (K : PySem.W.Frag) : ∀ vs H Q E, sp__law_fence K vs H Q E → vs.length = ["_law_book_here", "_law_name"].length := by rintro vs H Q E ⟨v, n, rs, rfl, _⟩; rfl
def R__law_fence (K : PySem.W.Frag) : TS :=
 (tSeq (tAsg (tCall (sp__law_row K) [] E0 (tCons (tVar 0) (tCons (tVar 1) tNil))) (gName 2))
 (tRet (tAndV (tOp rIsNotA (tVar 2) (tC .non)) (tOp (rInB K false) (tOp (rIxA K) (tVar 2) (tC (.int 1))) (tTup (tCons (tC (.str ("room" : Str))) (tCons (tC (.str ("frame" : Str))) tNil)))))))
theorem rd__law_fence (h : sp__law_fence K vs H Q E) : R__law_fence K { nx := fun _ H' => Q .non H', rt := Q } (start ["_law_book_here", "_law_name", "_law_row_here"] vs) H := by
  obtain ⟨v, n, rs, rfl, hR, q⟩ := h
  show R__law_fence K _ [some v, some (.str n), none] H
  unfold R__law_fence
  walk_at "step"
  refine ⟨v, some n, rs, rfl, hR, fun h => ?_, fun r u h hu => ?_⟩
  · walk_at "step"
    have : wall rs n = false := by unfold wall; rw [h]
    rw [this] at q
    refine iteF ?_
    exact q H (Same.refl _)
  · obtain ⟨b, sv, bv, rfl, hb, hsv, hbv⟩ := row_parts hu
    walk_at "step"
    rw [show decide (V.ref b = V.non) = false by simp, Bool.not_false]
    refine iteT ?_
    walk_at "step"
    refine v_ixT hb rfl ?_
    walk_at "step"
    refine ⟨sl64 (by simp), fun t ht => ?_⟩
    refine .inl (v_in (xs := strV [("room" : Str), ("frame" : Str)]) (.inr (SqT.of upd_same)) rfl (flat_strV _) ?_)
    rw [inV_strV]
    have : wall rs n = decide (r.sort ∈ [("room" : Str), ("frame" : Str)]) := by unfold wall; rw [h]
    rw [this] at q
    exact q _ (Same.new ht _)

def sp__law_near (K : PySem.W.Frag) : Sp := fun vs H Q _ => ∃ v a ys rs, vs = [v, .ref a] ∧ Rws K H v rs ∧ (SqL K H a (strV ys) ∨ SqT K H a (strV ys)) ∧ ys.length ≤ 1000 ∧ ∀ p H', Same H H' → H p = none → H' p = some (.lst (strV (near rs ys))) → Q (.ref p) H'
theorem len__law_near (K : PySem.W.Frag) : ∀ vs H Q E, sp__law_near K vs H Q E → vs.length = ["_law_book_here", "_law_names_here"].length := by rintro vs H Q E ⟨v, a, ys, rs, rfl, _⟩; rfl
def R__law_near (K : PySem.W.Frag) : TS :=
 (tSeq (tAsg (tLst tNil) (gName 2))
 (tSeq (tFor (iAny K (tVar 1)) (gName 3)
 (tSeq (tDrop (tBM K "list" rAppend (tVar 2) (tCons (tVar 3) tNil)))
 (tIfS (tB (tCall (sp__law_fence K) [] E0 (tCons (tVar 0) (tCons (tVar 3) tNil))))
 (tAsg (tLst tNil) (gName 2)) tNext)))
 (tRet (tVar 2))))
theorem rd__law_near (h : sp__law_near K vs H Q E) : R__law_near K { nx := fun _ H' => Q .non H', rt := Q } (start ["_law_book_here", "_law_names_here", "_law_near_here", "_law_name"] vs) H := by
  obtain ⟨v, a, ys, rs, rfl, hR, hq, hl, q⟩ := h
  show R__law_near K _ [some v, some (.ref a), none, none] H
  unfold R__law_near
  walk_at "step"
  refine ⟨sl64 (by simp), fun d hd => ?_⟩
  walk_at "step"
  refine any_forS hq (Same.new hd _) (fun i σ H' => ∃ (p : Addr) (w : Option V), σ = [some v, some (.ref a), some (.ref p), w] ∧ Same H H' ∧ H p = none ∧ H' p = some (.lst (strV (near rs (ys.take i))))) ⟨d, none, rfl, Same.new hd _, hd, upd_same⟩ ?_ ?_ ?_
  · rintro i σ H' ⟨p, w, rfl, s, hp, _⟩
    exact s
  · rintro i x σ H' hx ⟨p, w, rfl, s, hp, hpp⟩
    obtain ⟨y, hy, rfl⟩ := strV_get hx
    have etk : ys.take (i + 1) = ys.take i ++ [y] := by rw [List.take_add_one, hy]; rfl
    have nl := near_len rs (ys.take i).length (ys.take i) rfl
    rw [List.length_take] at nl
    walk_at "step"
    refine ⟨.inl ⟨rfl, _, SqL.of hpp⟩, ?_⟩
    walk_at "step"
    refine v_append hpp (by rw [strV_len, sizeLine_eq]; omega) ?_
    rw [strV_app]
    walk_at "step"
    refine ⟨v, y, rs, rfl, (hR.same (Same.put s hp _)), fun H2 s2 => ?_⟩
    walk_at "step"
    have s3 := Same.tr (Same.put s hp (.lst (strV (near rs (ys.take i) ++ [y])))) s2
    cases hw : wall rs y with
    | true =>
      refine iteT ?_
      walk_at "step"
      refine ⟨sl64 (by simp), fun d2 hd2 => ?_⟩
      walk_at "step"
      exact ⟨d2, _, rfl, Same.tr s3 (Same.new hd2 _), Same.free s3 hd2, by rw [etk, near_snoc, if_pos hw]; exact upd_same⟩
    | false =>
      refine iteF ?_
      walk_at "step"
      exact ⟨p, _, rfl, s3, hp, by rw [etk, near_snoc, if_neg (by rw [hw]; exact Bool.false_ne_true)]; exact s2 _ _ upd_same⟩
  · rintro σ H' ⟨p, w, rfl, s, hp, hpp⟩
    walk_at "step"
    rw [strV_len, List.take_length] at hpp
    exact q p H' s hp hpp

def mayT5 (K : PySem.W.Frag) : TS :=
 (tSeq (tFor (iAny K (tCall (sp__law_near K) [] E0 (tCons (tVar 0) (tCons (tVar 1) tNil)))) (gName 5)
 (tIfS (tOr (tTest (tOp (rInB K false) (tVar 5) (tOp (rIxA K) (tVar 3) (tC (.int 3))))) (tTest (tOp (rInB K false) (tVar 5) (tOp (rIxA K) (tVar 3) (tC (.int 4))))))
 (tRet (tC (.bl false))) tNext))
 (tRet (tC (.bl true))))
def mayT4 (K : PySem.W.Frag) : TS :=
 (tSeq (tIfS (tAnd (tTest (tOp (rNeA K) (tVar 4) (tC (.str ("" : Str))))) (tAnd (tTest (tOp (rEqA K) (tOp (rIxA K) (tCall (sp__law_row K) [] E0 (tCons (tVar 0) (tCons (tVar 4) tNil))) (tC (.int 1))) (tC (.str ("frame" : Str))))) (tTest (tOp (rNeA K) (tOp (rIxA K) (tCall (sp__law_row K) [] E0 (tCons (tVar 0) (tCons (tVar 4) tNil))) (tC (.int 2))) (tVar 2)))))
 (tRet (tC (.bl false))) tNext)
 (mayT5 K))
def mayT3 (K : PySem.W.Frag) : TS :=
 (tSeq (tIfS (tAnd (tTest (tOp (rNeA K) (tCall (sp__law_frame K) [] E0 (tCons (tVar 0) (tCons (tVar 2) tNil))) (tC (.str ("" : Str))))) (tTest (tOp (rNeA K) (tCall (sp__law_frame K) [] E0 (tCons (tVar 0) (tCons (tVar 2) tNil))) (tVar 4))))
 (tRet (tC (.bl false))) tNext)
 (mayT4 K))
def mayT2 (K : PySem.W.Frag) : TS :=
 (tSeq (tIfS (tOr (tTest (tOp rIsA (tVar 3) (tC .non))) (tTest (tOp rGtA (tCB (rLenA K) (tCons (tVar 1) tNil)) (tC (.int 19)))))
 (tRet (tC (.bl false))) tNext)
 (mayT3 K))

theorem row_tup {r : Row} {v : V} (h : Dv K H r.da v) : ∃ b ps pb, v = .ref b ∧ SqT K H b [.str r.name, .str r.sort, .str r.host, .ref ps, .ref pb] ∧ SqT K H ps (strV r.shuts) ∧ SqT K H pb (strV r.bars) := by
  obtain ⟨b, sv, bv, rfl, hb, h1, h2⟩ := row_parts h
  obtain ⟨ps, vs, rfl, q1, d1⟩ := dv_tuple.mp h1
  obtain ⟨pb, ws, rfl, q2, d2⟩ := dv_tuple.mp h2
  rw [dvs_sDa.mp d1] at q1
  rw [dvs_sDa.mp d2] at q2
  exact ⟨b, ps, pb, rfl, hb, q1, q2⟩
def clearF (rs : List Row) (ys : List Str) (r : Row) : Bool := (near rs ys).all fun y => !(decide (y ∈ r.shuts)) && !(decide (y ∈ r.bars))
def hostFit (rs : List Row) (lst n : Str) : Bool := match rowOf rs (some lst) with | none => true | some r => !(decide (r.sort = ("frame" : Str))) || decide (r.host = n)
def frameFit (rs : List Row) (lst n : Str) : Bool := decide (frS rs n = ("" : Str)) || decide (frS rs n = lst)
def lastOf (ys : List Str) : Str := gd ys (ys.length - 1)
def mayF (rs : List Row) (ys : List Str) (n : Str) : Bool := match rowOf rs (some n) with
  | none => false
  | some r => decide (ys.length ≤ 19) && (frameFit rs (lastOf ys) n && (hostFit rs (lastOf ys) n && clearF rs ys r))
section
variable {D : Ends} {v : V} {a b ps pb : Addr} {ys : List Str} {n : Str} {rs : List Row} {r : Row}
theorem may_t5 {a4 a5 : Option V} (hR : Rws K H v rs) (hq : SqL K H a (strV ys) ∨ SqT K H a (strV ys)) (hl : ys.length ≤ 19) (hb : SqT K H b [.str r.name, .str r.sort, .str r.host, .ref ps, .ref pb]) (h1 : SqT K H ps (strV r.shuts)) (h2 : SqT K H pb (strV r.bars)) (q : ∀ H', Same H H' → D.rt (.bl (clearF rs ys r)) H') :
    mayT5 K D [some v, some (.ref a), some (.str n), some (.ref b), a4, a5] H := by
  unfold mayT5
  walk_at "step"
  refine ⟨v, a, ys, rs, rfl, hR, hq, by omega, fun p H1 s1 hp hp1 => ?_⟩
  refine any_forS (H0 := H1) (.inl (SqL.of hp1)) (Same.refl _) (fun i σ H' => H' = H1 ∧ (∃ w, σ = [some v, some (.ref a), some (.str n), some (.ref b), a4, w]) ∧ ∀ y ∈ (near rs ys).take i, y ∉ r.shuts ∧ y ∉ r.bars) ⟨rfl, ⟨_, rfl⟩, by simp⟩ (fun i σ H' p => p.1 ▸ Same.refl _) ?_ ?_
  · rintro i x σ H' hx ⟨rfl, ⟨w, rfl⟩, hcl⟩
    obtain ⟨y, hy, rfl⟩ := strV_get hx
    have bad : (y ∈ r.shuts ∨ y ∈ r.bars) → clearF rs ys r = false := fun h => by
      unfold clearF
      rw [List.all_eq_false]
      exact ⟨y, List.mem_of_getElem? hy, by rcases h with h | h <;> simp [h]⟩
    walk_at "step"
    refine v_ixT (s1.sqT hb) rfl ?_
    refine .inl (v_in (.inr (s1.sqT h1)) rfl (flat_strV _) ?_)
    rw [inV_strV]
    walk_at "step"
    by_cases e1 : y ∈ r.shuts
    · rw [decide_eq_true e1]
      refine iteT ?_
      refine iteT ?_
      walk_at "step"
      rw [bad (.inl e1)] at q
      exact q _ s1
    · rw [decide_eq_false e1]
      refine iteF ?_
      walk_at "step"
      refine v_ixT (s1.sqT hb) rfl ?_
      refine .inl (v_in (.inr (s1.sqT h2)) rfl (flat_strV _) ?_)
      rw [inV_strV]
      walk_at "step"
      by_cases e2 : y ∈ r.bars
      · rw [decide_eq_true e2]
        refine iteT ?_
        walk_at "step"
        rw [bad (.inr e2)] at q
        exact q _ s1
      · rw [decide_eq_false e2]
        refine iteF ?_
        walk_at "step"
        exact ⟨rfl, ⟨_, rfl⟩, take_all hy hcl ⟨e1, e2⟩⟩
  · rintro σ H' ⟨rfl, ⟨w, rfl⟩, hcl⟩
    walk_at "step"
    rw [strV_len, List.take_length] at hcl
    have : clearF rs ys r = true := by
      unfold clearF
      rw [List.all_eq_true]
      intro y hy
      obtain ⟨e1, e2⟩ := hcl y hy
      simp [e1, e2]
    rw [this] at q
    exact q _ s1
theorem may_t4 {a5 : Option V} {lst : Str} (B : Boo rs) (hR : Rws K H v rs) (hq : SqL K H a (strV ys) ∨ SqT K H a (strV ys)) (hl : ys.length ≤ 19) (hb : SqT K H b [.str r.name, .str r.sort, .str r.host, .ref ps, .ref pb]) (h1 : SqT K H ps (strV r.shuts)) (h2 : SqT K H pb (strV r.bars)) (hlst : lst = ("" : Str) ∨ ∃ r ∈ rs, r.name = lst) (q : ∀ H', Same H H' → D.rt (.bl (hostFit rs lst n && clearF rs ys r)) H') :
    mayT4 K D [some v, some (.ref a), some (.str n), some (.ref b), some (.str lst), a5] H := by
  unfold mayT4
  walk_at "step"
  have fin := fun (a4 : Option V) (h : hostFit rs lst n = true) => may_t5 (n := n) (a4 := a4) (a5 := a5) (D := D) hR hq hl hb h1 h2 fun H' s => by have := q H' s; rwa [h, Bool.true_and] at this
  by_cases h0 : lst = ("" : Str)
  · rw [decide_eq_true h0, Bool.not_true]
    refine iteF ?_
    refine iteF ?_
    walk_at "step"
    exact fin _ (by unfold hostFit; rw [h0]; have : rowOf rs (some ("" : Str)) = none := by
                      cases e : rowOf rs (some ("" : Str)) with
                      | none => rfl
                      | some r => obtain ⟨hr, hn⟩ := row_some e; exact absurd hn (B.ne r hr)
                    rw [this])
  · rw [decide_eq_false h0, Bool.not_false]
    refine iteT ?_
    obtain ⟨r2, e2, m2, n2⟩ := row_ex (hlst.resolve_left h0)
    walk_at "step"
    refine ⟨v, some lst, rs, rfl, hR, fun e => (by rw [e2] at e; cases e), fun r3 u e hu => ?_⟩
    rw [e2] at e
    injection e with e
    subst e
    obtain ⟨b3, p3, p4, rfl, hb3, _, _⟩ := row_tup hu
    walk_at "step"
    refine v_ixT hb3 rfl ?_
    walk_at "step"
    by_cases hf : r2.sort = ("frame" : Str)
    · rw [decide_eq_true hf]
      refine iteT ?_
      walk_at "step"
      refine ⟨v, some lst, rs, rfl, hR, fun e => (by rw [e2] at e; cases e), fun r4 u e hu => ?_⟩
      rw [e2] at e
      injection e with e
      subst e
      obtain ⟨b4, p5, p6, rfl, hb4, _, _⟩ := row_tup hu
      walk_at "step"
      refine v_ixT hb4 rfl ?_
      walk_at "step"
      by_cases hh : r2.host = n
      · rw [decide_eq_true hh, Bool.not_true]
        refine iteF ?_
        walk_at "step"
        exact fin _ (by unfold hostFit; rw [e2]; simp [hh])
      · rw [decide_eq_false hh, Bool.not_false]
        refine iteT ?_
        walk_at "step"
        have : hostFit rs lst n = false := by unfold hostFit; rw [e2]; simp [hh, hf]
        rw [this, Bool.false_and] at q
        exact q _ (Same.refl _)
    · rw [decide_eq_false hf]
      refine iteF ?_
      refine iteF ?_
      walk_at "step"
      exact fin _ (by unfold hostFit; rw [e2]; simp [hf])
theorem may_t3 {a5 : Option V} {lst : Str} (B : Boo rs) (hR : Rws K H v rs) (hq : SqL K H a (strV ys) ∨ SqT K H a (strV ys)) (hl : ys.length ≤ 19) (hb : SqT K H b [.str r.name, .str r.sort, .str r.host, .ref ps, .ref pb]) (h1 : SqT K H ps (strV r.shuts)) (h2 : SqT K H pb (strV r.bars)) (hlst : lst = ("" : Str) ∨ ∃ r ∈ rs, r.name = lst) (q : ∀ H', Same H H' → D.rt (.bl (frameFit rs lst n && (hostFit rs lst n && clearF rs ys r))) H') :
    mayT3 K D [some v, some (.ref a), some (.str n), some (.ref b), some (.str lst), a5] H := by
  unfold mayT3
  walk_at "step"
  refine ⟨v, n, rs, rfl, hR, B, ?_⟩
  walk_at "step"
  have fin := fun (h : frameFit rs lst n = true) => may_t4 (n := n) (a5 := a5) (D := D) B hR hq hl hb h1 h2 hlst fun H' s => by have := q H' s; rwa [h, Bool.true_and] at this
  by_cases h0 : frS rs n = ("" : Str)
  · rw [decide_eq_true h0, Bool.not_true]
    refine iteF ?_
    refine iteF ?_
    walk_at "step"
    exact fin (by unfold frameFit; simp [h0])
  · rw [decide_eq_false h0, Bool.not_false]
    refine iteT ?_
    walk_at "step"
    refine ⟨v, n, rs, rfl, hR, B, ?_⟩
    walk_at "step"
    by_cases hh : frS rs n = lst
    · rw [decide_eq_true hh, Bool.not_true]
      refine iteF ?_
      walk_at "step"
      exact fin (by unfold frameFit; simp [hh])
    · rw [decide_eq_false hh, Bool.not_false]
      refine iteT ?_
      walk_at "step"
      have : frameFit rs lst n = false := by unfold frameFit; simp [h0, hh]
      rw [this, Bool.false_and] at q
      exact q _ (Same.refl _)
end
def sp__law_may (K : PySem.W.Frag) : Sp := fun vs H Q _ => ∃ v a ys n rs, vs = [v, .ref a, .str n] ∧ Rws K H v rs ∧ Boo rs ∧ (SqL K H a (strV ys) ∨ SqT K H a (strV ys)) ∧ ys.length ≤ 1000 ∧ (∀ y ∈ ys, ∃ r ∈ rs, r.name = y) ∧ ∀ H', Same H H' → Q (.bl (mayF rs ys n)) H'
theorem len__law_may (K : PySem.W.Frag) : ∀ vs H Q E, sp__law_may K vs H Q E → vs.length = ["_law_book_here", "_law_names_here", "_law_name"].length := by rintro vs H Q E ⟨v, a, ys, n, rs, rfl, _⟩; rfl
def R__law_may (K : PySem.W.Frag) : TS :=
 (tSeq (tAsg (tCall (sp__law_row K) [] E0 (tCons (tVar 0) (tCons (tVar 2) tNil))) (gName 3))
 (tSeq (tAsg (tC (.str ("" : Str))) (gName 4))
 (tSeq (tIfS (tTest (tOp rGtA (tCB (rLenA K) (tCons (tVar 1) tNil)) (tC (.int 0))))
 (tAsg (tOp (rIxA K) (tVar 1) (tUn (rU fun i => .int (-i)) (tC (.int 1)))) (gName 4)) tNext)
 (mayT2 K))))
theorem rd__law_may (h : sp__law_may K vs H Q E) : R__law_may K { nx := fun _ H' => Q .non H', rt := Q } (start ["_law_book_here", "_law_names_here", "_law_name", "_law_row_here", "_law_last", "_law_other"] vs) H := by
  obtain ⟨v, a, ys, n, rs, rfl, hR, B, hq, hl, hy, q⟩ := h
  show R__law_may K _ [some v, some (.ref a), some (.str n), none, none, none] H
  unfold R__law_may
  walk_at "step"
  have t2 : ∀ (u : V) (lst : Str), lst = lastOf ys → ((u = .non ∧ rowOf rs (some n) = none) ∨ ∃ b r ps pb, u = .ref b ∧ rowOf rs (some n) = some r ∧ SqT K H b [.str (Row.name r), .str r.sort, .str r.host, .ref ps, .ref pb] ∧ SqT K H ps (strV r.shuts) ∧ SqT K H pb (strV r.bars)) → (lst = ("" : Str) ∨ ∃ r ∈ rs, r.name = lst) → mayT2 K { nx := fun _ H' => Q .non H', rt := Q } [some v, some (.ref a), some (.str n), some u, some (.str lst), none] H := by
    intro u lst elst hu hlst
    unfold mayT2
    walk_at "step"
    rcases hu with ⟨rfl, en⟩ | ⟨b, r, ps, pb, rfl, en, hb, h1, h2⟩
    · rw [decide_eq_true rfl]
      refine iteT ?_
      refine iteT ?_
      walk_at "step"
      have : mayF rs ys n = false := by unfold mayF; rw [en]
      rw [this] at q
      exact q _ (Same.refl _)
    · rw [show decide (V.ref b = V.non) = false by simp]
      refine iteF ?_
      walk_at "step"
      refine v_lenQ hq ?_
      rw [strV_len]
      walk_at "step"
      by_cases h19 : (19 : Int) < (ys.length : Int)
      · rw [decide_eq_true h19]
        refine iteT ?_
        walk_at "step"
        have : mayF rs ys n = false := by unfold mayF; rw [en]; simp; omega
        rw [this] at q
        exact q _ (Same.refl _)
      · rw [decide_eq_false h19]
        refine iteF ?_
        walk_at "step"
        have e3 : mayF rs ys n = (frameFit rs lst n && (hostFit rs lst n && clearF rs ys r)) := by
          unfold mayF; rw [en, elst]
          dsimp only
          rw [decide_eq_true (show ys.length ≤ 19 by omega), Bool.true_and]
        rw [e3] at q
        exact may_t3 B hR hq (by omega) hb h1 h2 hlst q
  have t1 : ∀ u : V, ((u = .non ∧ rowOf rs (some n) = none) ∨ ∃ b r ps pb, u = .ref b ∧ rowOf rs (some n) = some r ∧ SqT K H b [.str (Row.name r), .str r.sort, .str r.host, .ref ps, .ref pb] ∧ SqT K H ps (strV r.shuts) ∧ SqT K H pb (strV r.bars)) →
      (if decide ((0 : Int) < (ys.length : Int)) = true then (tAsg (tOp (rIxA K) (tVar 1) (tUn (rU fun i => .int (-i)) (tC (.int 1)))) (gName 4)) { nx := mayT2 K { nx := fun _ H' => Q .non H', rt := Q }, rt := Q } [some v, some (.ref a), some (.str n), some u, some (.str ("" : Str)), none] H else tNext { nx := mayT2 K { nx := fun _ H' => Q .non H', rt := Q }, rt := Q } [some v, some (.ref a), some (.str n), some u, some (.str ("" : Str)), none] H) := by
    intro u hu
    by_cases h0 : (0 : Int) < (ys.length : Int)
    · rw [decide_eq_true h0]
      refine iteT ?_
      walk_at "step"
      refine ⟨1, rfl, ?_⟩
      have e1 : (strV ys)[(strV ys).length - 1]? = some (.str (gd ys (ys.length - 1))) := by
        rw [strV_len]; unfold strV; rw [List.getElem?_map, gd_get (by omega)]; rfl
      have e2 := atI_end (by rw [strV_len]; omega) e1
      have hy2 := hy _ (gd_mem (l := ys) (i := ys.length - 1) (by omega))
      rcases hq with hq | hq
      · refine v_ixL hq e2 ?_
        walk_at "step"
        exact t2 _ _ rfl hu (.inr hy2)
      · refine v_ixT hq e2 ?_
        walk_at "step"
        exact t2 _ _ rfl hu (.inr hy2)
    · rw [decide_eq_false h0]
      refine iteF ?_
      walk_at "step"
      have : ys = [] := List.length_eq_zero_iff.mp (by omega)
      exact t2 _ _ (by rw [this]; rfl) hu (.inl rfl)
  refine ⟨v, some n, rs, rfl, hR, fun h => ?_, fun r u h hu => ?_⟩
  · walk_at "step"
    refine v_lenQ hq ?_
    rw [strV_len]
    walk_at "step"
    exact t1 _ (.inl ⟨rfl, h⟩)
  · obtain ⟨b, ps, pb, rfl, hb, h1, h2⟩ := row_tup hu
    walk_at "step"
    refine v_lenQ hq ?_
    rw [strV_len]
    walk_at "step"
    exact t1 _ (.inr ⟨b, r, ps, pb, rfl, h, hb, h1, h2⟩)

end My

namespace My
open PySem L2
variable {K : PySem.W.Frag} {vs : List V} {H : Hp} {Q : VK} {E : XK}
def stackIn2 (K : PySem.W.Frag) : TS :=
 (tIfS (tAnd (tTest (tOp (rNeA K) (tOp (rIxA K) (tVar 6) (tC (.int 1))) (tC (.str ("bare" : Str))))) (tB (tCall (sp__law_may K) [] E0 (tCons (tVar 2) (tCons (tVar 3) (tCons (tOp (rIxA K) (tVar 6) (tC (.int 0))) tNil))))))
 (tDrop (tBM K "list" rAppend (tVar 3) (tCons (tOp (rIxA K) (tVar 6) (tC (.int 0))) tNil))) tNext)
def stackIn1 (K : PySem.W.Frag) : TS :=
 (tSeq (tIfS (tAnd (tTest (tOp (rNeA K) (tVar 3) (tLst tNil))) (tAnd (tTest (tOp (rEqA K) (tOp (rIxA K) (tCall (sp__law_row K) [] E0 (tCons (tVar 2) (tCons (tOp (rIxA K) (tVar 3) (tUn (rU fun i => .int (-i)) (tC (.int 1)))) tNil))) (tC (.int 1))) (tC (.str ("frame" : Str))))) (tTest (tOp rGtA (tOp (rI (fun _ j => 0 < j) fun i j => .int (i % j)) (tOp (rI CDiv fun i j => .int (i / j)) (tVar 5) (tC (.int 64))) (tC (.int 4))) (tC (.int 0))))))
 (tAsg (tCall (sp__law_row K) [] E0 (tCons (tVar 2) (tCons (tOp (rIxA K) (tCall (sp__law_row K) [] E0 (tCons (tVar 2) (tCons (tOp (rIxA K) (tVar 3) (tUn (rU fun i => .int (-i)) (tC (.int 1)))) tNil))) (tC (.int 2))) tNil))) (gName 6)) tNext)
 (stackIn2 K))
def stackCut (K : PySem.W.Frag) : TS :=
 (tIfS (tTest (tOp (rEqA K) (tOp (rI (fun _ j => 0 < j) fun i j => .int (i % j)) (tOp (rI CDiv fun i j => .int (i / j)) (tVar 5) (tC (.int 1024))) (tC (.int 8))) (tC (.int 0))))
 (tAsg (tSl (rSlA K) (tVar 3) tNoPart (tPart (tOp (rI (fun _ j => 0 < j) fun i j => .int (i % j)) (tOp (rI CDiv fun i j => .int (i / j)) (tVar 5) (tC (.int 8192))) (tOp (rAddA K) (tCB (rLenA K) (tCons (tVar 3) tNil)) (tC (.int 1)))))) (gName 3)) tNext)

theorem Same.with {H H' : Hp} {p : Addr} {o : HO} (s : Same H H') (h : H' p = some o) : Same (upd H p o) H' := fun c u e => by
  by_cases z : c = p
  · subst z; rw [upd_same] at e; rw [← e]; exact h
  · rw [upd_ne z] at e; exact s c u e
theorem gd_app {xs : List Str} {y : Str} {k : Nat} (h : k < xs.length) : gd (xs ++ [y]) k = gd xs k := by
  have h1 := gd_get (l := xs ++ [y]) (i := k) (by rw [List.length_append]; simp; omega)
  rw [List.getElem?_append_left h, gd_get h] at h1
  exact (Option.some.inj h1).symm
theorem gd_end {xs : List Str} {y : Str} : gd (xs ++ [y]) xs.length = y := by
  have h1 := gd_get (l := xs ++ [y]) (i := xs.length) (by simp)
  rw [List.getElem?_append_right (Nat.le_refl _), Nat.sub_self] at h1
  exact (Option.some.inj h1).symm
theorem gd_take {xs : List Str} {u k : Nat} (h : k < u) : gd (xs.take u) k = gd xs k := by
  unfold gd
  rw [List.getD_eq_getElem?_getD, List.getD_eq_getElem?_getD, List.getElem?_take, if_pos h]
/-- open ones that come of a book -/
structure Stk (rs : List Row) (ys : List Str) : Prop where
  l : ys.length ≤ 20
  m : ∀ y ∈ ys, ∃ r ∈ rs, r.name = y
  w : ∀ k, k < ys.length → mayF rs (ys.take k) (gd ys k) = true
theorem may_len {rs : List Row} {ys : List Str} {y : Str} (h : mayF rs ys y = true) : ys.length ≤ 19 := by
  unfold mayF at h
  split at h
  · cases h
  · rw [Bool.and_eq_true, decide_eq_true_eq] at h; exact h.1
theorem Stk.app {rs : List Row} {ys : List Str} {y : Str} (h : Stk rs ys) (hm : mayF rs ys y = true) (hy : ∃ r ∈ rs, r.name = y) : Stk rs (ys ++ [y]) := by
  have hl := may_len hm
  refine ⟨by rw [List.length_append, List.length_singleton]; omega, fun z hz => ?_, fun k hk => ?_⟩
  · rcases List.mem_append.mp hz with h' | h'
    · exact h.m z h'
    · rw [List.mem_singleton.mp h']; exact hy
  · rw [List.length_append, List.length_singleton] at hk
    by_cases hk2 : k < ys.length
    · rw [gd_app hk2, List.take_append_of_le_length (by omega)]; exact h.w k hk2
    · have : k = ys.length := by omega
      subst this
      rw [gd_end, List.take_append_of_le_length (Nat.le_refl _), List.take_length]; exact hm
theorem Stk.take {rs : List Row} {ys : List Str} (h : Stk rs ys) (u : Nat) : Stk rs (ys.take u) := by
  refine ⟨by rw [List.length_take]; have := h.l; omega, fun y hy => h.m y (List.mem_of_mem_take hy), fun k hk => ?_⟩
  rw [List.length_take] at hk
  rw [gd_take (by omega), List.take_take, Nat.min_eq_left (by omega)]
  exact h.w k (by omega)
section
variable {D : Ends} {H0 : Hp} {sc t pn : Addr} {rs : List Row} {us : List V} {ys : List Str} {r : Row} {s1 : Option V} {cell : Option V} {num times k : Int}
theorem stack_in2 (hR : Rws K H0 (.ref t) rs) (B : Boo rs) (s0 : Same H0 H) (hp0 : H0 pn = none) (hp : H pn = some (.lst (strV ys))) (hk : Stk rs ys) (hr : r ∈ rs) {u : V} (hu : Dv K H r.da u)
    (q : ∀ ys' H', Same H0 H' → H' pn = some (.lst (strV ys')) → Stk rs ys' → TupK H H' → D.nx [some (.ref sc), s1, some (.ref t), some (.ref pn), cell, some (.int num), some u, some (.int times), some (.int k)] H') :
    stackIn2 K D [some (.ref sc), s1, some (.ref t), some (.ref pn), cell, some (.int num), some u, some (.int times), some (.int k)] H := by
  unfold stackIn2
  obtain ⟨b, ps, pb, rfl, hb, _, _⟩ := row_tup hu
  walk_at "step"
  refine v_ixT hb rfl ?_
  walk_at "step"
  by_cases h0 : r.sort = ("bare" : Str)
  · rw [decide_eq_true h0, Bool.not_true]
    refine iteF ?_
    refine iteF ?_
    walk_at "step"
    exact q ys H s0 hp hk (TupK.refl _)
  · rw [decide_eq_false h0, Bool.not_false]
    refine iteT ?_
    walk_at "step"
    refine v_ixT hb rfl ?_
    walk_at "step"
    refine ⟨.ref t, pn, ys, r.name, rs, rfl, hR.same s0, B, .inl (SqL.of hp), by have := hk.l; omega, hk.m, fun H1 sA => ?_⟩
    walk_at "step"
    cases hc : mayF rs ys r.name with
    | false =>
      refine iteF ?_
      walk_at "step"
      exact q ys H1 (Same.tr s0 sA) (sA _ _ hp) hk sA.tupK
    | true =>
      refine iteT ?_
      walk_at "step"
      refine ⟨.inl ⟨rfl, _, SqL.of (sA _ _ hp)⟩, ?_⟩
      walk_at "step"
      refine v_ixT (sA.sqT hb) rfl ?_
      walk_at "step"
      refine v_append (sA _ _ hp) (by rw [strV_len, sizeLine_eq]; have := hk.l; omega) ?_
      rw [strV_app]
      exact q (ys ++ [r.name]) _ (Same.put (Same.tr s0 sA) hp0 _) upd_same (hk.app hc ⟨r, hr, rfl⟩) (sA.tupK.trans (tupK_lst (sA _ _ hp)))
theorem stack_in1 (hR : Rws K H0 (.ref t) rs) (B : Boo rs) (s0 : Same H0 H) (hp0 : H0 pn = none) (hp : H pn = some (.lst (strV ys))) (hk : Stk rs ys) (hr : r ∈ rs) {u : V} (hu : Dv K H r.da u)
    (q : ∀ ys' r' u' H', Same H0 H' → H' pn = some (.lst (strV ys')) → Stk rs ys' → r' ∈ rs → Dv K H' (Row.da r') u' → D.nx [some (.ref sc), s1, some (.ref t), some (.ref pn), cell, some (.int num), some u', some (.int times), some (.int k)] H') :
    stackIn1 K D [some (.ref sc), s1, some (.ref t), some (.ref pn), cell, some (.int num), some u, some (.int times), some (.int k)] H := by
  unfold stackIn1
  walk_at "step"
  refine ⟨sl64 (by simp), fun e he => ?_⟩
  have sE : Same H0 (upd H e (.lst [])) := Same.tr s0 (Same.new he _)
  have hpE : (upd H e (.lst [])) pn = some (.lst (strV ys)) := by rw [upd_ne (ne_free hp he)]; exact hp
  refine v_neD (d := .list (sDa ys)) (e := .list []) (dv_list.mpr ⟨pn, _, rfl, SqL.of hpE, dvs_sDa.mpr rfl⟩) (dv_list.mpr ⟨e, [], rfl, SqL.of upd_same, dvs_nil⟩) (by rw [PyData.depth, depth_strs]; decide) ?_
  rw [eqv_strs]
  have hu1 : Dv K (upd H e (.lst [])) r.da u := Dv.same (Same.new he _) _ _ hu
  generalize upd H e (.lst []) = H1 at *
  walk_at "step"
  have plain : stackIn2 K D [some (.ref sc), s1, some (.ref t), some (.ref pn), cell, some (.int num), some u, some (.int times), some (.int k)] H1 :=
    stack_in2 hR B sE hp0 hpE hk hr hu1 fun ys' H' a b c tk => q ys' r u H' a b c hr (Dv.tupK tk _ _ (fix_row _) hu1)
  by_cases h0 : ys = []
  · rw [decide_eq_true h0, Bool.not_true]
    refine iteF ?_
    refine iteF ?_
    walk_at "step"
    exact plain
  · rw [decide_eq_false h0, Bool.not_false]
    refine iteT ?_
    have yl : 0 < ys.length := List.length_pos_iff.mpr h0
    have e1 : (strV ys)[(strV ys).length - 1]? = some (.str (gd ys (ys.length - 1))) := by
      rw [strV_len]; unfold strV; rw [List.getElem?_map, gd_get (by omega)]; rfl
    have e2 := atI_end (by rw [strV_len]; omega) e1
    obtain ⟨r2, er2, m2, n2⟩ := row_ex (hk.m _ (gd_mem (l := ys) (i := ys.length - 1) (by omega)))
    walk_at "step"
    refine ⟨1, rfl, ?_⟩
    refine v_ixL (SqL.of hpE) e2 ?_
    walk_at "step"
    refine ⟨.ref t, some _, rs, rfl, hR.same sE, fun e => (by rw [er2] at e; cases e), fun r3 u3 e hu3 => ?_⟩
    rw [er2] at e
    injection e with e
    subst e
    obtain ⟨b3, p3, p4, rfl, hb3, _, _⟩ := row_tup hu3
    walk_at "step"
    refine v_ixT hb3 rfl ?_
    walk_at "step"
    by_cases hf : r2.sort = ("frame" : Str)
    · rw [decide_eq_true hf]
      refine iteT ?_
      walk_at "step"
      by_cases hg : (0 : Int) < num / 64 % 4
      · rw [decide_eq_true hg]
        refine iteT ?_
        walk_at "step"
        refine ⟨1, rfl, ?_⟩
        refine v_ixL (SqL.of hpE) e2 ?_
        walk_at "step"
        refine ⟨.ref t, some _, rs, rfl, hR.same sE, fun e => (by rw [er2] at e; cases e), fun r3 u3 e hu3 => ?_⟩
        rw [er2] at e
        injection e with e
        subst e
        obtain ⟨b4, p5, p6, rfl, hb4, _, _⟩ := row_tup hu3
        walk_at "step"
        refine v_ixT hb4 rfl ?_
        walk_at "step"
        obtain ⟨rk, _, hrk⟩ := B.rk
        obtain ⟨⟨r5, hr5, en5, _⟩, _⟩ := hrk _ m2 hf
        obtain ⟨r6, er6, m6, n6⟩ := row_ex ⟨r5, hr5, en5⟩
        refine ⟨.ref t, some _, rs, rfl, hR.same sE, fun e => (by rw [er6] at e; cases e), fun r7 u7 e hu7 => ?_⟩
        rw [er6] at e
        injection e with e
        subst e
        walk_at "step"
        exact stack_in2 hR B sE hp0 hpE hk m6 hu7 fun ys' H' a b c tk => q ys' r6 u7 H' a b c m6 (Dv.tupK tk _ _ (fix_row _) hu7)
      · rw [decide_eq_false hg]
        refine iteF ?_
        walk_at "step"
        exact plain
    · rw [decide_eq_false hf]
      refine iteF ?_
      refine iteF ?_
      walk_at "step"
      exact plain
end

theorem stack_cut {D : Ends} {H0 : Hp} {sc t pn : Addr} {rs : List Row} {ys : List Str} {s1 cell a6 a7 a8 : Option V} {num : Int} (s0 : Same H0 H) (hp0 : H0 pn = none) (hp : H pn = some (.lst (strV ys))) (hk : Stk rs ys)
    (q : ∀ pn' ys' H', Same H0 H' → H0 pn' = none → H' pn' = some (.lst (strV ys')) → Stk rs ys' → D.nx [some (.ref sc), s1, some (.ref t), some (.ref pn'), cell, some (.int num), a6, a7, a8] H') :
    stackCut K D [some (.ref sc), s1, some (.ref t), some (.ref pn), cell, some (.int num), a6, a7, a8] H := by
  unfold stackCut
  walk_at "step"
  by_cases h0 : num / 1024 % 8 = 0
  · rw [decide_eq_true h0]
    refine iteT ?_
    walk_at "step"
    refine v_lenQ (.inl (SqL.of hp)) ?_
    rw [strV_len]
    walk_at "step"
    refine .inr (.inr ⟨pn, _, rfl, SqL.of hp, fun p2 hp2 => ?_⟩)
    have i0 := Int.emod_nonneg (num / 8192) (show ((ys.length : Nat) : Int) + 1 ≠ 0 by omega)
    obtain ⟨u, hu⟩ := Int.eq_ofNat_of_zero_le i0
    have ec : cutV (strV ys) none (some (num / 8192 % (((ys.length : Nat) : Int) + 1))) = strV (ys.take u) := by
      unfold cutV
      rw [hu, HT.sIx_nat]
      show ((strV ys).drop 0).take (min u (strV ys).length - 0) = _
      rw [List.drop_zero, Nat.sub_zero]
      unfold strV
      rw [List.map_take, List.length_map]
      by_cases hh : u ≤ ys.length
      · rw [Nat.min_eq_left hh]
      · rw [Nat.min_eq_right (by omega), List.take_of_length_le (by rw [List.length_map]; exact Nat.le_refl _), List.take_of_length_le (by rw [List.length_map]; omega)]
    rw [ec]
    walk_at "step"
    exact q p2 (ys.take u) _ (Same.tr s0 (Same.new hp2 _)) (Same.free s0 hp2) upd_same (hk.take u)
  · rw [decide_eq_false h0]
    refine iteF ?_
    walk_at "step"
    exact q pn ys H s0 hp0 hp hk
def sp__law_stack (K : PySem.W.Frag) : Sp := fun vs H Q _ => ∃ (sc t : Addr) (ns : List Int) (st : Int) (us : List V) (rs : List Row), vs = [.ref sc, .int st, .ref t] ∧ SqL K H sc (ns.map V.int) ∧ ns.length ≤ 63 ∧ SqT K H t us ∧ Dvs K H (rs.map Row.da) us ∧ Boo rs ∧ ∀ (p : Addr) (ys : List Str) (H' : Hp), Same H H' → SqT K H' p (strV ys) → Stk rs ys → Q (.ref p) H'
theorem len__law_stack (K : PySem.W.Frag) : ∀ vs H Q E, sp__law_stack K vs H Q E → vs.length = ["_law_script", "_law_start", "_law_book_here"].length := by rintro vs H Q E ⟨sc, t, ns, st, us, rs, rfl, _⟩; rfl
def R__law_stack (K : PySem.W.Frag) : TS :=
 (tSeq (tAsg (tLst tNil) (gName 3))
 (tSeq (tFor (iAny K (tSl (rSlA K) (tVar 0) (tPart (tVar 1)) (tPart (tOp (rAddA K) (tVar 1) (tC (.int 24)))))) (gName 4)
 (tSeq (tAsg (tCall (sp__law_mixed K) [] E0 (tCons (tVar 4) (tCons (tC (.int 5)) tNil))) (gName 5))
 (tSeq (tAsg (tOp (rIxA K) (tVar 2) (tOp (rI (fun _ j => 0 < j) fun i j => .int (i % j)) (tVar 5) (tCB (rLenA K) (tCons (tVar 2) tNil)))) (gName 6))
 (tSeq (tAsg (tOp (rIxA K) (tLst (tCons (tC (.int 1)) (tCons (tC (.int 1)) (tCons (tC (.int 1)) (tCons (tC (.int 20)) tNil))))) (tOp (rI (fun _ j => 0 < j) fun i j => .int (i % j)) (tOp (rI CDiv fun i j => .int (i / j)) (tVar 5) (tC (.int 16))) (tC (.int 4)))) (gName 7))
 (tSeq (tFor (iRng1 (tCons (tVar 7) tNil)) (gName 8)
 (stackIn1 K))
 (stackCut K))))))
 (tRet (tCB (rTupleA K) (tCons (tVar 3) tNil)))))
theorem rd__law_stack (h : sp__law_stack K vs H Q E) : R__law_stack K { nx := fun _ H' => Q .non H', rt := Q } (start ["_law_script", "_law_start", "_law_book_here", "_law_names_here", "_law_cell", "_law_number", "_law_row_here", "_law_times", "_law_k"] vs) H := by
  obtain ⟨sc, t, ns, st, us, rs, rfl, hS, hnl, ht, dv, B, q⟩ := h
  show R__law_stack K _ [some (.ref sc), some (.int st), some (.ref t), none, none, none, none, none, none] H
  unfold R__law_stack
  have hR : Rws K H (.ref t) rs := ⟨t, us, rfl, .inr ht, dv⟩
  have ul : us.length = rs.length := by have := dv.length; simpa using this
  walk_at "step"
  refine ⟨sl64 (by simp), fun d hd => ?_⟩
  walk_at "step"
  refine .inr (.inr ⟨sc, _, rfl, (Same.new hd _).sqL hS, fun pc hpc => ?_⟩)
  have sA : Same H (upd (upd H d (.lst [])) pc (.lst (cutV (ns.map V.int) (some st) (some (st + 24))))) := Same.tr (Same.new hd _) (Same.new hpc _)
  have hdA : (upd (upd H d (.lst [])) pc (.lst (cutV (ns.map V.int) (some st) (some (st + 24))))) d = some (.lst []) := by rw [upd_ne (ne_free upd_same hpc)]; exact upd_same
  have hpA : (upd (upd H d (.lst [])) pc (.lst (cutV (ns.map V.int) (some st) (some (st + 24))))) pc = some (.lst (cutV (ns.map V.int) (some st) (some (st + 24)))) := upd_same
  generalize upd (upd H d (.lst [])) pc (.lst (cutV (ns.map V.int) (some st) (some (st + 24)))) = HA at *
  have hpc0 : H pc = none := Same.free (Same.new hd _) hpc
  have ndc : d ≠ pc := fun e => by rw [← e, upd_same] at hpc; cases hpc
  refine any_forL (xs := cutV (ns.map V.int) (some st) (some (st + 24))) (SqL.of hpA) (fun i σ H' => ∃ (pn : Addr) (a4 a5 a6 a7 a8 : Option V) (ys : List Str), σ = [some (.ref sc), some (.int st), some (.ref t), some (.ref pn), a4, a5, a6, a7, a8] ∧ Same H H' ∧ H pn = none ∧ pn ≠ pc ∧ H' pc = some (.lst (cutV (ns.map V.int) (some st) (some (st + 24)))) ∧ H' pn = some (.lst (strV ys)) ∧ Stk rs ys) ?_ ?_ ?_ ?_
  · exact ⟨d, none, none, none, none, none, [], rfl, sA, hd, ndc, hpA, hdA, ⟨Nat.zero_le _, by simp, fun k h => by cases h⟩⟩
  · rintro i σ H' hi ⟨pn, a4, a5, a6, a7, a8, ys, rfl, s1, hpn0, npc, hpc1, hpn1, hk⟩
    exact SqL.of hpc1
  · rintro i x σ H' hx ⟨pn, a4, a5, a6, a7, a8, ys, rfl, s1, hpn0, npc, hpc1, hpn1, hk⟩
    obtain ⟨n, rfl⟩ : ∃ n, x = .int n := by
      have hm := List.mem_of_getElem? hx
      unfold cutV at hm
      obtain ⟨n, _, e⟩ := List.mem_map.mp (List.mem_of_mem_drop (List.mem_of_mem_take hm))
      exact ⟨n, e.symm⟩
    walk_at "step"
    refine ⟨n, 5, rfl, by decide, by decide, fun num hnum => ?_⟩
    walk_at "step"
    refine v_lenQ (.inr (s1.sqT ht)) ?_
    refine v_mod (by have := B.l1; omega) ?_
    have i0 := Int.emod_nonneg num (show ((us.length : Nat) : Int) ≠ 0 by have := B.l1; omega)
    have i1 := Int.emod_lt_of_pos num (show (0 : Int) < ((us.length : Nat) : Int) by have := B.l1; omega)
    obtain ⟨u, hu⟩ := Int.eq_ofNat_of_zero_le i0
    rw [hu]
    have hul : u < us.length := by omega
    have eu : us[u]? = some us[u] := List.getElem?_eq_getElem hul
    obtain ⟨dd, e1, dvx⟩ := dv.get' eu
    rw [List.getElem?_map] at e1
    obtain ⟨r, hr, rfl⟩ := Option.map_eq_some_iff.mp e1
    refine v_ixT (s1.sqT ht) (atI_nat eu) ?_
    walk_at "step"
    refine ⟨sl64 (by simp), fun t4 ht4 => ?_⟩
    walk_at "step"
    have j0 := Int.emod_nonneg (num / 16) (show (4 : Int) ≠ 0 by decide)
    have j1 := Int.emod_lt_of_pos (num / 16) (show (0 : Int) < 4 by decide)
    obtain ⟨times, htm, hta, htb⟩ : ∃ tm : Int, atI [V.int 1, V.int 1, V.int 1, V.int 20] (num / 16 % 4) = some (.int tm) ∧ 0 ≤ tm ∧ tm ≤ 20 := by
      obtain ⟨w, hw⟩ := Int.eq_ofNat_of_zero_le j0
      rw [hw]
      have : w = 0 ∨ w = 1 ∨ w = 2 ∨ w = 3 := by omega
      rcases this with h | h | h | h <;> subst h
      · exact ⟨1, rfl, by decide, by decide⟩
      · exact ⟨1, rfl, by decide, by decide⟩
      · exact ⟨1, rfl, by decide, by decide⟩
      · exact ⟨20, rfl, by decide, by decide⟩
    refine v_ixL (SqL.of upd_same) htm ?_
    walk_at "step"
    have s2 : Same H (upd H' t4 (.lst [.int 1, .int 1, .int 1, .int 20])) := Same.tr s1 (Same.new ht4 _)
    have hpn2 : (upd H' t4 (.lst [.int 1, .int 1, .int 1, .int 20])) pn = some (.lst (strV ys)) := by rw [upd_ne (ne_free hpn1 ht4)]; exact hpn1
    have hpc2 : (upd H' t4 (.lst [.int 1, .int 1, .int 1, .int 20])) pc = some (.lst (cutV (ns.map V.int) (some st) (some (st + 24)))) := by rw [upd_ne (ne_free hpc1 ht4)]; exact hpc1
    have dvx2 := Dv.same s2 _ _ dvx
    generalize upd H' t4 (.lst [.int 1, .int 1, .int 1, .int 20]) = H2 at *
    refine rng1_for hta (by omega) (fun m σ H'' => ∃ (a8 : Option V) (ys : List Str) (r : Row) (u : V), σ = [some (.ref sc), some (.int st), some (.ref t), some (.ref pn), some (.int n), some (.int num), some u, some (.int times), a8] ∧ Same H H'' ∧ H'' pc = some (.lst (cutV (ns.map V.int) (some st) (some (st + 24)))) ∧ H'' pn = some (.lst (strV ys)) ∧ Stk rs ys ∧ r ∈ rs ∧ Dv K H'' r.da u) ⟨_, ys, r, _, rfl, s2, hpc2, hpn2, hk, List.mem_of_getElem? hr, dvx2⟩ ?_ ?_
    · rintro m σ H'' hm ⟨a8, ys, r, u, rfl, s3, hpc3, hpn3, hk3, hr3, hu3⟩
      walk_at "step"
      refine stack_in1 (H0 := upd H pc (.lst (cutV (ns.map V.int) (some st) (some (st + 24))))) (hR.same (Same.new hpc0 _)) B (Same.with s3 hpc3) (by rw [upd_ne npc]; exact hpn0) hpn3 hk3 hr3 hu3 ?_
      intro ys' r' u' H4 s4 h4 k4 r4 d4
      exact ⟨_, ys', r', u', rfl, Same.tr (Same.new hpc0 _) s4, s4 _ _ upd_same, h4, k4, r4, d4⟩
    · rintro σ H'' ⟨a8, ys, r, u, rfl, s3, hpc3, hpn3, hk3, hr3, hu3⟩
      walk_at "step"
      refine stack_cut (H0 := upd H pc (.lst (cutV (ns.map V.int) (some st) (some (st + 24))))) (Same.with s3 hpc3) (by rw [upd_ne npc]; exact hpn0) hpn3 hk3 ?_
      intro pn' ys' H4 s4 h40 h4 k4
      have nn : pn' ≠ pc := fun e => by rw [e, upd_same] at h40; cases h40
      exact ⟨pn', _, _, _, _, _, ys', rfl, Same.tr (Same.new hpc0 _) s4, Same.free (Same.new hpc0 _) h40, nn, s4 _ _ upd_same, h4, k4⟩
  · rintro σ H' ⟨pn, a4, a5, a6, a7, a8, ys, rfl, s1, hpn0, npc, hpc1, hpn1, hk⟩
    walk_at "step"
    refine ⟨pn, _, rfl, .inl ⟨SqL.of hpn1, fun p hp => ?_⟩⟩
    exact q p ys _ (Same.tr s1 (Same.new hp _)) (SqT.of upd_same) hk

end My

namespace My
open PySem L2
variable {K : PySem.W.Frag} {vs : List V} {H : Hp} {Q : VK} {E : XK}

def downs (rs : List Row) : Nat → Option Str → List Str
  | 0, _ => []
  | k + 1, n => match hostOf rs n with
    | none => []
    | some y => y :: downs rs k (some y)
/-- hosts lie higher -/
def Rise (rs : List Row) (rk : Str → Nat) : Prop := ∀ x y, hostOf rs (some x) = some y → rk x < rk y ∧ rk y < 12
theorem Boo.rise {rs : List Row} (B : Boo rs) : ∃ rk, Rise rs rk := by
  obtain ⟨rk, h1, h2⟩ := B.rk
  refine ⟨rk, fun x y e => ?_⟩
  unfold hostOf at e
  cases er : rowOf rs (some x) with
  | none => rw [er] at e; cases e
  | some r =>
    rw [er] at e
    obtain ⟨hr, hn⟩ := row_some er
    by_cases hf : r.sort = ("frame" : Str)
    · have e : some r.host = some y := by simpa [hf] using e
      injection e with e
      obtain ⟨⟨r', hr', en, _⟩, h⟩ := h2 r hr hf
      subst e hn
      exact ⟨h, by rw [← en]; exact h1 r' hr'⟩
    · simp [hf] at e
theorem downs_more {rs : List Row} {rk : Str → Nat} (f : Rise rs rk) : ∀ (k m : Nat) (x : Str), 12 - rk x ≤ k → k ≤ m → downs rs m (some x) = downs rs k (some x)
  | k, 0, x, h, hm => by have : k = 0 := by omega
                         rw [this]
  | k, m + 1, x, h, hm => by
    cases e : hostOf rs (some x) with
    | none =>
      have e1 : ∀ k, downs rs k (some x) = [] := fun k => by cases k with | zero => rfl | succ k => rw [downs, e]
      rw [e1, e1]
    | some y =>
      obtain ⟨hy, hy2⟩ := f x y e
      cases k with
      | zero => omega
      | succ k =>
        rw [downs, e, downs, e]
        show y :: downs rs m (some y) = y :: downs rs k (some y)
        rw [downs_more f k m y (by omega) (by omega)]
/-- all hosts of a name -/
def hostsOf (rs : List Row) (x : Str) : List Str := downs rs 12 (some x)
theorem downs_len (rs : List Row) : ∀ (k : Nat) (n : Option Str), (downs rs k n).length ≤ k
  | 0, _ => Nat.le_refl _
  | k + 1, n => by
    rw [downs]
    split
    · exact Nat.zero_le _
    · rw [List.length_cons]; have := downs_len rs k; exact Nat.succ_le_succ (this _)
theorem hosts_none {rs : List Row} {x : Str} (e : hostOf rs (some x) = none) : hostsOf rs x = [] := by
  unfold hostsOf; rw [downs, e]
theorem hosts_some {rs : List Row} {rk : Str → Nat} (f : Rise rs rk) {x y : Str} (e : hostOf rs (some x) = some y) : hostsOf rs x = y :: hostsOf rs y := by
  unfold hostsOf
  rw [downs, e]
  show y :: downs rs 11 (some y) = y :: downs rs 12 (some y)
  obtain ⟨h1, h2⟩ := f x y e
  rw [downs_more f 11 12 y (by omega) (by omega)]
theorem hostOf_empty {rs : List Row} (B : Boo rs) : hostOf rs (some ("" : Str)) = none := by
  unfold hostOf
  have : rowOf rs (some ("" : Str)) = none := by
    cases e : rowOf rs (some ("" : Str)) with
    | none => rfl
    | some r => obtain ⟨hr, hn⟩ := row_some e; exact absurd hn (B.ne r hr)
  rw [this]; rfl
def sp_straight_above (K : PySem.W.Frag) : Sp := fun vs H Q _ => ∃ (a : Addr) (ys : List Str), vs = [.ref a] ∧ (SqL K H a (strV ys) ∨ SqT K H a (strV ys)) ∧ Q (.str (lastOf ys)) H
theorem len_straight_above (K : PySem.W.Frag) : ∀ vs H Q E, sp_straight_above K vs H Q E → vs.length = ["names"].length := by rintro vs H Q E ⟨a, ys, rfl, _⟩; rfl
def R_straight_above (K : PySem.W.Frag) : TS :=
 (tRet (tIf (tTest (tOp rGtA (tCB (rLenA K) (tCons (tVar 0) tNil)) (tC (.int 0)))) (tOp (rIxA K) (tVar 0) (tUn (rU fun i => .int (-i)) (tC (.int 1)))) (tC (.str ("" : Str)))))
theorem rd_straight_above (h : sp_straight_above K vs H Q E) : R_straight_above K { nx := fun _ H' => Q .non H', rt := Q } (start ["names"] vs) H := by
  obtain ⟨a, ys, rfl, hq, q⟩ := h
  show R_straight_above K _ [some (.ref a)] H
  unfold R_straight_above
  walk_at "step"
  refine v_lenQ hq ?_
  rw [strV_len]
  walk_at "step"
  by_cases h0 : (0 : Int) < (ys.length : Int)
  · rw [decide_eq_true h0]
    refine iteT ?_
    walk_at "step"
    refine ⟨1, rfl, ?_⟩
    have e1 : (strV ys)[(strV ys).length - 1]? = some (.str (lastOf ys)) := by
      rw [strV_len]; unfold strV lastOf; rw [List.getElem?_map, gd_get (by omega)]; rfl
    have e2 := atI_end (by rw [strV_len]; omega) e1
    rcases hq with hq | hq
    · exact v_ixL hq e2 q
    · exact v_ixT hq e2 q
  · rw [decide_eq_false h0]
    refine iteF ?_
    walk_at "step"
    have : ys = [] := List.length_eq_zero_iff.mp (by omega)
    subst this
    exact q

def sp_hosts_within (K : PySem.W.Frag) : Sp := fun vs H Q _ => ∃ (v : V) (x : Str) (rs : List Row), vs = [v, .str x] ∧ Rws K H v rs ∧ Boo rs ∧ ∀ (p : Addr) (H' : Hp), Same H H' → SqT K H' p (strV (hostsOf rs x)) → Q (.ref p) H'
theorem len_hosts_within (K : PySem.W.Frag) : ∀ vs H Q E, sp_hosts_within K vs H Q E → vs.length = ["book", "name"].length := by rintro vs H Q E ⟨v, x, rs, rfl, _⟩; rfl
def R_hosts_within (K : PySem.W.Frag) : TS :=
 (tSeq (tAsg (tLst tNil) (gName 2))
 (tSeq (tAsg (tCall (sp_host_of K) [] E0 (tCons (tVar 0) (tCons (tVar 1) tNil))) (gName 3))
 (tSeq (tWhile (tTest (tOp rIsNotA (tVar 3) (tC .non)))
 (tSeq (tDrop (tBM K "list" rAppend (tVar 2) (tCons (tVar 3) tNil)))
 (tAsg (tCall (sp_host_of K) [] E0 (tCons (tVar 0) (tCons (tVar 3) tNil))) (gName 3))))
 (tRet (tCB (rTupleA K) (tCons (tVar 2) tNil))))))
theorem rd_hosts_within (h : sp_hosts_within K vs H Q E) : R_hosts_within K { nx := fun _ H' => Q .non H', rt := Q } (start ["book", "name", "hosts", "host"] vs) H := by
  obtain ⟨v, x, rs, rfl, hR, B, q⟩ := h
  show R_hosts_within K _ [some v, some (.str x), none, none] H
  unfold R_hosts_within
  obtain ⟨rk, f⟩ := B.rise
  walk_at "step"
  refine ⟨sl64 (by simp), fun d hd => ?_⟩
  walk_at "step"
  refine ⟨v, some x, rs, rfl, hR.same (Same.new hd _), ?_⟩
  walk_at "step"
  refine while_by (fun σ H' => ∃ (n : Option Str) (ys : List Str), σ = [some v, some (.str x), some (.ref d), some (oV n)] ∧ Same H H' ∧ H' d = some (.lst (strV ys)) ∧ hostsOf rs x = ys ++ (match n with | none => [] | some y => y :: hostsOf rs y) ∧ ys.length ≤ 12 ∧ ∀ y, n = some y → ∃ x, hostOf rs (some x) = some y)
    (fun σ _ => match σ with | [_, _, _, some (.str y)] => 13 - rk y | _ => 0) ?_ ?_ ?_
  · refine ⟨hostOf rs (some x), [], rfl, Same.new hd _, upd_same, ?_, Nat.zero_le _, fun y e => ⟨x, e⟩⟩
    cases e : hostOf rs (some x) with
    | none => rw [hosts_none e]; rfl
    | some y => rw [hosts_some f e]; rfl
  · rintro σ H' ⟨n, ys, rfl, s1, h1, eh, hl, hn⟩
    have hlen : (hostsOf rs x).length ≤ 12 := downs_len rs 12 _
    cases n with
    | none =>
      refine ⟨_, rfl, rfl, _, rfl, ?_⟩
      show (if (!decide (V.non = V.non)) = true then _ else _)
      rw [decide_eq_true rfl, Bool.not_true]; refine iteF ?_
      walk_at "step"
      refine ⟨d, _, rfl, .inl ⟨SqL.of h1, fun p hp => ?_⟩⟩
      have : hostsOf rs x = ys := by rw [eh]; exact List.append_nil _
      exact q p _ (Same.tr s1 (Same.new hp _)) (by rw [this]; exact SqT.of upd_same)
    | some y =>
      refine ⟨_, rfl, rfl, _, rfl, ?_⟩
      show (if (!decide (V.str y = V.non)) = true then _ else _)
      rw [decide_eq_false (by simp), Bool.not_false]; refine iteT ?_
      have hl2 : ys.length + 1 ≤ 12 := by
        rw [eh, List.length_append] at hlen
        simp at hlen; omega
      walk_at "step"
      refine ⟨.inl ⟨rfl, _, SqL.of h1⟩, ?_⟩
      walk_at "step"
      refine v_append h1 (by rw [strV_len, sizeLine_eq]; omega) ?_
      rw [show (oV (some y)) = V.str y from rfl, strV_app]
      walk_at "step"
      refine ⟨v, some y, rs, rfl, hR.same (Same.put s1 hd _), ?_⟩
      walk_at "step"
      refine ⟨⟨hostOf rs (some y), ys ++ [y], rfl, Same.put s1 hd _, upd_same, ?_, by rw [List.length_append, List.length_singleton]; omega, fun z e => ⟨y, e⟩⟩, ?_⟩
      · rw [eh, List.append_assoc]
        congr 1
        cases e : hostOf rs (some y) with
        | none => show y :: hostsOf rs y = _; rw [hosts_none e]; rfl
        | some z => show y :: hostsOf rs y = _; rw [hosts_some f e]; rfl
      · show (match [some v, some (V.str x), some (V.ref d), some (oV (hostOf rs (some y)))] with | [_, _, _, some (.str y)] => 13 - rk y | _ => 0) < 13 - rk y
        obtain ⟨w, hw⟩ := hn y rfl
        have := (f _ _ hw).2
        cases e2 : hostOf rs (some y) with
        | none => show 0 < 13 - rk y; omega
        | some z => have := f y z e2; show 13 - rk z < 13 - rk y; omega
  · rintro σ H' Q1 Q2 hQ ⟨v1, e1, e2, k, e3, q1⟩
    exact ⟨v1, e1, e2, k, e3, hQ _ _ q1⟩

theorem cut_take {ys : List Str} (k : Nat) : cutV (strV ys) none (some ((k : Nat) : Int)) = strV (ys.take k) := by
  unfold cutV
  rw [HT.sIx_nat]
  show ((strV ys).drop 0).take (min k (strV ys).length - 0) = _
  rw [List.drop_zero, Nat.sub_zero]
  unfold strV
  rw [List.map_take, List.length_map]
  by_cases hh : k ≤ ys.length
  · rw [Nat.min_eq_left hh]
  · rw [Nat.min_eq_right (by omega), List.take_of_length_le (by rw [List.length_map]; exact Nat.le_refl _), List.take_of_length_le (by rw [List.length_map]; omega)]
end My

namespace My
open PySem L2
variable {K : PySem.W.Frag} {vs : List V} {H : Hp} {Q : VK} {E : XK}

theorem frame_row {rs : List Row} {x y : Str} (e : frameOf rs (some x) = some y) : ∃ r ∈ rs, r.name = y ∧ r.sort = ("frame" : Str) ∧ r.host = x := by
  unfold frameOf at e
  obtain ⟨r, hr, rfl⟩ := Option.map_eq_some_iff.mp e
  have hm := List.mem_of_find?_eq_some hr
  have hp := List.find?_some hr
  rw [Bool.and_eq_true, decide_eq_true_eq, decide_eq_true_eq] at hp
  exact ⟨r, hm, rfl, hp.1, Option.some.inj hp.2⟩
theorem frameOf_empty {rs : List Row} (B : Boo rs) : frameOf rs (some ("" : Str)) = none := by
  cases e : frameOf rs (some ("" : Str)) with
  | none => rfl
  | some y =>
    obtain ⟨r, hm, _, hf, hh⟩ := frame_row e
    obtain ⟨rk, _, h2⟩ := B.rk
    obtain ⟨⟨r', hr', en, _⟩, _⟩ := h2 r hm hf
    exact absurd (en.trans hh) (B.ne r' hr')
theorem frS_eq {rs : List Row} (B : Boo rs) (n : Str) : frS rs n = (frameOf rs (some n)).getD ("" : Str) := by
  unfold frS
  by_cases h : n = ("" : Str)
  · rw [if_pos h, h, frameOf_empty B]; rfl
  · rw [if_neg h]
def bel (rs : List Row) (rk : Str → Nat) (y x : Str) : Bool := decide (x ∈ ups rs (rk y) (some y))
/-- what a closing closes, among the first k -/
def clo (rs : List Row) (rk : Str → Nat) (ys : List Str) (x : Str) : Nat → Option Nat
  | 0 => none
  | k + 1 => if gd ys k = x then some k else if wall rs (gd ys k) && !(bel rs rk (gd ys k) x) then none else clo rs rk ys x k
def nV : Option Nat → V
  | some k => .int (k : Int)
  | none => .non
theorem inV_non (xs : List Str) : inV .non (strV xs) = false := by
  induction xs with
  | nil => rfl
  | cons x l ih =>
    unfold inV at ih ⊢
    show (eqV (.str x) .non || (strV l).any fun z => eqV z .non) = false
    rw [ih]; rfl
def sp_is_wall (K : PySem.W.Frag) : Sp := fun vs H Q _ => ∃ v n rs, vs = [v, .str n] ∧ Rws K H v rs ∧ Q (.bl (wall rs n)) H
theorem len_is_wall (K : PySem.W.Frag) : ∀ vs H Q E, sp_is_wall K vs H Q E → vs.length = ["book", "name"].length := by rintro vs H Q E ⟨v, n, rs, rfl, _⟩; rfl
def R_is_wall (K : PySem.W.Frag) (c_WALL_SORTS : Addr) : TS :=
 (tRet (tOp (rInB K false) (tCall (sp_sort_of K) [] E0 (tCons (tVar 0) (tCons (tVar 1) tNil))) (tC (.ref c_WALL_SORTS))))
theorem rd_is_wall {c_WALL_SORTS : Addr} (q_WALL_SORTS : ∀ H : Hp, SqT K H c_WALL_SORTS [.str ("room" : Str), .str ("frame" : Str)]) (h : sp_is_wall K vs H Q E) : R_is_wall K c_WALL_SORTS { nx := fun _ H' => Q .non H', rt := Q } (start ["book", "name"] vs) H := by
  obtain ⟨v, n, rs, rfl, hR, q⟩ := h
  show R_is_wall K c_WALL_SORTS _ [some v, some (.str n)] H
  unfold R_is_wall
  walk_at "step"
  refine ⟨v, some n, rs, rfl, hR, ?_⟩
  walk_at "step"
  have hw : wall rs n = inV (oV (sortOf rs (some n))) (strV [("room" : Str), ("frame" : Str)]) := by
    unfold wall sortOf
    cases rowOf rs (some n) with
    | none => exact (inV_non _).symm
    | some r => exact (inV_strV _ _).symm
  refine .inl (v_in (xs := strV [("room" : Str), ("frame" : Str)]) (.inr (q_WALL_SORTS H)) ?_ (flat_strV _) ?_)
  · cases sortOf rs (some n) <;> rfl
  · rw [← hw]; exact q

def sp_closing (K : PySem.W.Frag) : Sp := fun vs H Q _ => ∃ (v : V) (a : Addr) (ys : List Str) (x : Str) (rs : List Row) (rk : Str → Nat), vs = [v, .ref a, .str x] ∧ Rws K H v rs ∧ Falls rs rk ∧ (SqL K H a (strV ys) ∨ SqT K H a (strV ys)) ∧ ys.length ≤ 1000 ∧ Q (nV (clo rs rk ys x ys.length)) H
theorem len_closing (K : PySem.W.Frag) : ∀ vs H Q E, sp_closing K vs H Q E → vs.length = ["book", "names", "name"].length := by rintro vs H Q E ⟨v, a, ys, x, rs, rk, rfl, _⟩; rfl
def R_closing (K : PySem.W.Frag) : TS :=
 (tSeq (tFor (iRng3 (tCons (tOp (rI0 fun i j => .int (i - j)) (tCB (rLenA K) (tCons (tVar 1) tNil)) (tC (.int 1))) (tCons (tUn (rU fun i => .int (-i)) (tC (.int 1))) (tCons (tUn (rU fun i => .int (-i)) (tC (.int 1))) tNil)))) (gName 3)
 (tSeq (tIfS (tTest (tOp (rEqA K) (tOp (rIxA K) (tVar 1) (tVar 3)) (tVar 2)))
 (tRet (tVar 3)) tNext)
 (tIfS (tAnd (tB (tCall (sp_is_wall K) [] E0 (tCons (tVar 0) (tCons (tOp (rIxA K) (tVar 1) (tVar 3)) tNil)))) (tNot (tB (tCall (sp_belongs K) [] E0 (tCons (tVar 0) (tCons (tOp (rIxA K) (tVar 1) (tVar 3)) (tCons (tVar 2) tNil)))))))
 (tRet (tC .non)) tNext)))
 (tRet (tC .non)))
theorem rd_closing (h : sp_closing K vs H Q E) : R_closing K { nx := fun _ H' => Q .non H', rt := Q } (start ["book", "names", "name", "number"] vs) H := by
  obtain ⟨v, a, ys, x, rs, rk, rfl, hR, f, hq, hl, q⟩ := h
  show R_closing K _ [some v, some (.ref a), some (.str x), none] H
  unfold R_closing
  walk_at "step"
  refine v_lenQ hq ?_
  rw [strV_len]
  walk_at "step"
  refine ⟨1, rfl, ?_⟩
  walk_at "step"
  refine ⟨1, rfl, ?_⟩
  walk_at "step"
  refine rng3_for (by omega) (fun i σ H' => H' = H ∧ (∃ w, σ = [some v, some (.ref a), some (.str x), w]) ∧ clo rs rk ys x ys.length = clo rs rk ys x (ys.length - i)) ⟨rfl, ⟨_, rfl⟩, rfl⟩ ?_ ?_
  · rintro i σ H' hi ⟨rfl, ⟨w, rfl⟩, hc⟩
    obtain ⟨k, hk⟩ : ∃ k : Nat, ys.length - i = k + 1 := ⟨ys.length - i - 1, by omega⟩
    have ek : (ys.length : Int) - 1 - (i : Int) = ((k : Nat) : Int) := by omega
    have hk2 : ys.length - (i + 1) = k := by omega
    have ix : ∀ Q' : VK, Q' (.str (gd ys k)) H' → rIxA K (.ref a) (.int ((k : Nat) : Int)) H' Q' := fun Q' h => by
      rcases hq with hq | hq
      · exact v_ixL hq (at_str (by omega)) h
      · exact v_ixT hq (at_str (by omega)) h
    rw [hk, clo] at hc
    rw [ek]
    walk_at "step"
    refine ix _ ?_
    walk_at "step"
    by_cases e : gd ys k = x
    · rw [decide_eq_true e]
      refine iteT ?_
      walk_at "step"
      rw [hc, if_pos e] at q
      exact q
    · rw [decide_eq_false e]
      refine iteF ?_
      rw [if_neg e] at hc
      walk_at "step"
      refine ix _ ?_
      walk_at "step"
      refine ⟨v, _, rs, rfl, hR, ?_⟩
      walk_at "step"
      cases hw : wall rs (gd ys k) with
      | false =>
        rw [hw, Bool.false_and, if_neg Bool.false_ne_true] at hc
        refine iteF ?_
        refine iteF ?_
        walk_at "step"
        exact ⟨rfl, ⟨_, rfl⟩, by rw [hk2]; exact hc⟩
      | true =>
        rw [hw, Bool.true_and] at hc
        refine iteT ?_
        walk_at "step"
        refine ix _ ?_
        walk_at "step"
        refine ⟨v, _, x, rs, rk, rfl, hR, f, ?_⟩
        show ∃ k_1, V.bl (bel rs rk (gd ys k) x) = V.bl k_1 ∧ _
        walk_at "step"
        cases hb : bel rs rk (gd ys k) x with
        | true =>
          rw [hb, Bool.not_true, if_neg Bool.false_ne_true] at hc
          rw [Bool.not_true]
          refine iteF ?_
          walk_at "step"
          exact ⟨rfl, ⟨_, rfl⟩, by rw [hk2]; exact hc⟩
        | false =>
          rw [hb, Bool.not_false, if_pos rfl] at hc
          rw [Bool.not_false]
          refine iteT ?_
          walk_at "step"
          rw [hc] at q
          exact q
  · rintro σ H' ⟨rfl, ⟨w, rfl⟩, hc⟩
    walk_at "step"
    rw [Nat.sub_self] at hc
    rw [hc] at q
    exact q

theorem any_compS {g : TG} {tt : TT} {te : TE} {σ' : St} {H0 : Hp} {a : Addr} {xs : List V} (hq : SqL K H0 a xs ∨ SqT K H0 a xs) (s0 : Same H0 H) (Pv : Nat → List V → Hp → Prop) (h0 : Pv 0 [] H) (hlen : ∀ i ys H, i ≤ xs.length → Pv i ys H → ys.length ≤ sizeLine) (hk : ∀ i ys H', Pv i ys H' → Same H0 H')
    (hs : ∀ i x ys H, xs[i]? = some x → Pv i ys H → g x σ' H fun σ2 H2 => tt σ2 H2 fun b H3 => if b = true then te σ2 H3 fun y H4 => Pv (i + 1) (ys ++ [y]) H4 else Pv (i + 1) ys H3)
    (hd : ∀ ys H, Pv xs.length ys H → ∀ p, H p = none → Q (.ref p) (upd H p (.lst ys))) :
    ∃ b, V.ref a = .ref b ∧ (((∃ xs, SqL K H b xs) ∧ CompW g tt te σ' Q (Itl K b) H) ∨ ((∃ xs, SqT K H b xs) ∧ CompW g tt te σ' Q (Itt K b) H)) := by
  rcases hq with hq | hq
  · exact any_compL (s0.sqL hq) Pv h0 hlen (fun i ys H' _ p => (hk i ys H' p).sqL hq) hs hd
  · refine ⟨a, rfl, .inr ⟨⟨xs, s0.sqT hq⟩, comp_of (n := xs.length) (fun i x => xs[i]? = some x) Pv h0 hlen (fun i ys H hi p => ?_) (fun i ys H x H' hi p y => ?_) (fun ys H p => ?_) (fun i x ys H _ hx p => hs i x ys H hx p) hd⟩⟩
    · exact ⟨xs, xs[i], (hk i ys H p).sqT hq, by simp [hi]⟩
    · exact ⟨y.1, y.2 xs ((hk i ys H p).sqT hq)⟩
    · exact ⟨xs, (hk _ ys H p).sqT hq, Nat.le_refl _⟩
end My

namespace My
open PySem L2
variable {K : PySem.W.Frag} {vs : List V} {H : Hp} {Q : VK} {E : XK}

def shutsOf (rs : List Row) (x : Str) : List Str := match rowOf rs (some x) with | none => [] | some r => r.shuts
def barsOf (rs : List Row) (x : Str) : List Str := match rowOf rs (some x) with | none => [] | some r => r.bars
/-- the first of the m from k on that is in sh -/
def kpt (ys sh : List Str) : Nat → Nat → Nat
  | k, 0 => k
  | k, m + 1 => if gd ys k ∈ sh then k else kpt ys sh (k + 1) m
theorem kpt_le (ys sh : List Str) : ∀ m k, kpt ys sh k m ≤ k + m
  | 0, k => Nat.le_refl _
  | m + 1, k => by
    rw [kpt]
    split
    · omega
    · have := kpt_le ys sh m (k + 1); omega
def keptF (rs : List Row) (ys : List Str) (x : Str) : Nat := kpt ys (shutsOf rs x) (ys.length - (near rs ys).length) (near rs ys).length
def guestF (rs : List Row) (ys : List Str) (x : Str) : Nat × List Str := if hostsOf rs (lastOf ys) = [] then (keptF rs ys x, [x]) else (ys.length, hostsOf rs (lastOf ys) ++ [x])
def wstep (rs : List Row) (rk : Str → Nat) (ys : List Str) (rec : Str → Nat × List Str) (x : Str) : Nat × List Str :=
  match frameOf rs (some x) with
  | none => guestF rs ys x
  | some y => match clo rs rk ys y ys.length with
    | some k => (k + 1, [x])
    | none => ((rec y).1, (rec y).2 ++ [x])
def wantF (rs : List Row) (rk : Str → Nat) (ys : List Str) : Nat → Str → Nat × List Str
  | 0 => wstep rs rk ys fun _ => (0, [])
  | n + 1 => wstep rs rk ys (wantF rs rk ys n)
theorem clo_lt {rs : List Row} {rk : Str → Nat} {ys : List Str} {x : Str} : ∀ {m k : Nat}, clo rs rk ys x m = some k → k < m
  | 0, k, h => by cases h
  | m + 1, k, h => by
    rw [clo] at h
    split at h
    · injection h with h; omega
    · split at h
      · cases h
      · have := clo_lt h; omega
theorem hosts_mem {rs : List Row} (B : Boo rs) : ∀ (m : Nat) (n : Option Str), ∀ z ∈ downs rs m n, ∃ r ∈ rs, r.name = z
  | 0, _, z, h => by cases h
  | m + 1, n, z, h => by
    rw [downs] at h
    split at h
    · cases h
    · rename_i y e
      rcases List.mem_cons.mp h with h | h
      · subst h
        unfold hostOf at e
        cases er : rowOf rs n with
        | none => rw [er] at e; cases e
        | some r =>
          rw [er] at e
          have hr : r ∈ rs := List.mem_of_find?_eq_some er
          by_cases hf : r.sort = ("frame" : Str)
          · have e : some r.host = some z := by simpa [hf] using e
            injection e with e
            obtain ⟨rk, _, h2⟩ := B.rk
            obtain ⟨⟨r', hr', en, _⟩, _⟩ := h2 r hr hf
            exact ⟨r', hr', by rw [en, e]⟩
          · simp [hf] at e
      · exact hosts_mem B m _ z h
structure Wok (rs : List Row) (ys : List Str) (n : Nat) (w : Nat × List Str) : Prop where
  k : w.1 ≤ ys.length
  m : ∀ z ∈ w.2, ∃ r ∈ rs, r.name = z
  l : w.2.length ≤ 13 + n
theorem keptF_le (rs : List Row) (ys : List Str) (x : Str) : keptF rs ys x ≤ ys.length := by
  have := kpt_le ys (shutsOf rs x) (near rs ys).length (ys.length - (near rs ys).length)
  have := near_len rs ys.length ys rfl
  unfold keptF
  omega
theorem guest_ok {rs : List Row} (B : Boo rs) {ys : List Str} {x : Str} (hx : ∃ r ∈ rs, r.name = x) (n : Nat) : Wok rs ys n (guestF rs ys x) := by
  unfold guestF
  split
  · exact ⟨keptF_le rs ys x, fun z hz => by rw [List.mem_singleton.mp hz]; exact hx, by simp; omega⟩
  · refine ⟨Nat.le_refl _, fun z hz => ?_, ?_⟩
    · rcases List.mem_append.mp hz with h | h
      · exact hosts_mem B 12 _ z h
      · rw [List.mem_singleton.mp h]; exact hx
    · show (hostsOf rs (lastOf ys) ++ [x]).length ≤ _
      rw [List.length_append, List.length_singleton]
      have : (hostsOf rs (lastOf ys)).length ≤ 12 := downs_len rs 12 _
      omega
theorem want_ok {rs : List Row} (B : Boo rs) {rk : Str → Nat} (f : Falls rs rk) {ys : List Str} : ∀ (n : Nat) (x : Str), (∃ r ∈ rs, r.name = x) → rk x ≤ n → Wok rs ys n (wantF rs rk ys n x)
  | n, x, hx, hn => by
    have go : ∀ rec : Str → Nat × List Str, (∀ y, frameOf rs (some x) = some y → ∃ m, n = m + 1 ∧ Wok rs ys m (rec y)) → Wok rs ys n (wstep rs rk ys rec x) := by
      intro rec hrec
      unfold wstep
      cases e : frameOf rs (some x) with
      | none => exact guest_ok B hx n
      | some y =>
        dsimp only
        cases ec : clo rs rk ys y ys.length with
        | some k =>
          have := clo_lt ec
          exact ⟨by show k + 1 ≤ _; omega, fun z hz => by rw [List.mem_singleton.mp hz]; exact hx, by simp; omega⟩
        | none =>
          obtain ⟨m, rfl, w⟩ := hrec y e
          refine ⟨w.k, fun z hz => ?_, ?_⟩
          · rcases List.mem_append.mp hz with h | h
            · exact w.m z h
            · rw [List.mem_singleton.mp h]; exact hx
          · show ((rec y).2 ++ [x]).length ≤ _
            rw [List.length_append, List.length_singleton]; have := w.l; omega
    cases n with
    | zero => exact go _ fun y e => absurd (f x y e) (by omega)
    | succ m => exact go _ fun y e => ⟨m, rfl, want_ok B f m y (let ⟨r, h1, h2, _⟩ := frame_row e; ⟨r, h1, h2⟩) (by have := f x y e; omega)⟩
def bar (rs : List Row) : List Str → List Str → Bool
  | _, [] => false
  | there, x :: xs => (near rs there).any (fun y => decide (y ∈ barsOf rs x)) || bar rs (there ++ [x]) xs
def planF (rs : List Row) (rk : Str → Nat) (ys : List Str) (x : Str) : PyData :=
  if bar rs (ys.take (wantF rs rk ys 13 x).1) (wantF rs rk ys 13 x).2 = true then .tuple [.str ("drop" : Str), .str ("barred" : Str)]
  else if 20 < (wantF rs rk ys 13 x).1 + (wantF rs rk ys 13 x).2.length then .tuple [.str ("drop" : Str), .str ("deep" : Str)]
  else .tuple [.str ("open" : Str), .int (wantF rs rk ys 13 x).1, .tuple (sDa (wantF rs rk ys 13 x).2)]
def sp_near_of (K : PySem.W.Frag) : Sp := fun vs H Q _ => ∃ v a ys rs, vs = [v, .ref a] ∧ Rws K H v rs ∧ SqT K H a (strV ys) ∧ ys.length ≤ 1000 ∧ ∀ p H', Same H H' → SqT K H' p (strV (near rs ys)) → Q (.ref p) H'
theorem len_near_of (K : PySem.W.Frag) : ∀ vs H Q E, sp_near_of K vs H Q E → vs.length = ["book", "names"].length := by rintro vs H Q E ⟨v, a, ys, rs, rfl, _⟩; rfl
def R_near_of (K : PySem.W.Frag) : TS :=
 (tSeq (tAsg (tC (.int 0)) (gName 2))
 (tSeq (tFor (iEnumT K (tCons (tVar 1) tNil)) (gTup K 2 (gCons (gName 3) (gCons (gName 4) gNil)))
 (tIfS (tB (tCall (sp_is_wall K) [] E0 (tCons (tVar 0) (tCons (tVar 4) tNil))))
 (tAsg (tOp (rAddB K) (tVar 3) (tC (.int 1))) (gName 2)) tNext))
 (tRet (tCB (rTupleA K) (tCons (tSl (rSlB K) (tVar 1) (tPart (tVar 2)) tNoPart) tNil)))))
theorem rd_near_of (h : sp_near_of K vs H Q E) : R_near_of K { nx := fun _ H' => Q .non H', rt := Q } (start ["book", "names", "start", "number", "name"] vs) H := by
  obtain ⟨v, a, ys, rs, rfl, hR, hq, hl, q⟩ := h
  show R_near_of K _ [some v, some (.ref a), none, none, none] H
  unfold R_near_of
  walk_at "step"
  refine enumT_for hq (fun i σ H' => Same H H' ∧ ∃ (st : Nat) (a3 a4 : Option V), σ = [some v, some (.ref a), some (.int st), a3, a4] ∧ st ≤ i ∧ near rs (ys.take i) = (ys.take i).drop st) ⟨Same.refl _, 0, none, none, rfl, Nat.le_refl _, rfl⟩ (fun i σ H' p => p.1.sqT hq) ?_ ?_
  · rintro i x σ H' p hx ⟨s1, st, a3, a4, rfl, hst, hnr⟩ hp
    obtain ⟨y, hy, rfl⟩ := strV_get hx
    have il := (List.getElem?_eq_some_iff.mp hy).1
    have etk : ys.take (i + 1) = ys.take i ++ [y] := by rw [List.take_add_one, hy]; rfl
    have s2 : Same H (upd H' p (.tup [.int (i : Int), .str y])) := Same.tr s1 (Same.new hp _)
    refine ⟨p, _, rfl, SqT.of upd_same, rfl, _, _, rfl, st_name ⟨_, _, rfl, st_name ⟨rfl, ?_⟩⟩⟩
    walk_at "step"
    refine ⟨v, y, rs, rfl, hR.same s2, ?_⟩
    walk_at "step"
    cases hw : wall rs y with
    | true =>
      refine iteT ?_
      walk_at "step"
      refine .inl (v_addI ?_)
      walk_at "step"
      refine ⟨s2, i + 1, _, _, rfl, Nat.le_refl _, ?_⟩
      rw [etk, near_snoc, if_pos hw, List.drop_eq_nil_of_le (by rw [List.length_append, List.length_take, List.length_singleton]; omega)]
    | false =>
      refine iteF ?_
      walk_at "step"
      refine ⟨s2, st, _, _, rfl, by omega, ?_⟩
      rw [etk, near_snoc, if_neg (by rw [hw]; exact Bool.false_ne_true), hnr, List.drop_append_of_le_length (by rw [List.length_take]; omega)]
  · rintro σ H' ⟨s1, st, a3, a4, rfl, hst, hnr⟩
    rw [strV_len, List.take_length] at hnr
    walk_at "step"
    refine v_slT (s1.sqT hq) fun p H2 s2 hp => ?_
    have e : cutV (strV ys) (some (st : Int)) none = strV (near rs ys) := by
      unfold cutV
      rw [HT.sIx_nat]
      show ((strV ys).drop (min st (strV ys).length)).take ((strV ys).length - min st (strV ys).length) = _
      rw [strV_len] at hst ⊢
      rw [Nat.min_eq_left hst, List.take_of_length_le (by rw [List.length_drop, strV_len]; exact Nat.le_refl _), hnr]
      unfold strV
      rw [List.map_drop]
    rw [e] at hp
    walk_at "step"
    refine ⟨p, _, rfl, .inr ⟨hp, ?_⟩⟩
    exact q p H2 (Same.tr s1 s2) hp

def sp_share_a_name (K : PySem.W.Frag) : Sp := fun vs H Q _ => ∃ (a b : Addr) (ys zs : List Str), vs = [.ref a, .ref b] ∧ SqT K H a (strV ys) ∧ SqT K H b (strV zs) ∧ ys.length ≤ 1000 ∧ ∀ H', Same H H' → Q (.bl (ys.any fun y => decide (y ∈ zs))) H'
theorem len_share_a_name (K : PySem.W.Frag) : ∀ vs H Q E, sp_share_a_name K vs H Q E → vs.length = ["names", "others"].length := by rintro vs H Q E ⟨a, b, ys, zs, rfl, _⟩; rfl
def R_share_a_name (K : PySem.W.Frag) : TS :=
 (tRet (tCB (r_any K) (tCons (tComp [some 1, none] (iAny K (tVar 0)) (gName 1) tTT (tOp (rInB K false) (tVar 1) (tVar 0))) tNil)))
theorem rd_share_a_name (h : sp_share_a_name K vs H Q E) : R_share_a_name K { nx := fun _ H' => Q .non H', rt := Q } (start ["names", "others"] vs) H := by
  obtain ⟨a, b, ys, zs, rfl, ha, hb, hl, q⟩ := h
  show R_share_a_name K _ [some (.ref a), some (.ref b)] H
  unfold R_share_a_name
  walk_at "step"
  refine any_compS (H0 := H) (.inr ha) (Same.refl _) (fun i us H' => H' = H ∧ us = ((ys.take i).map fun y => decide (y ∈ zs)).map V.bl) ⟨rfl, rfl⟩ ?_ (fun i us H' p => p.1 ▸ Same.refl _) ?_ ?_
  · rintro i us H' hi ⟨_, rfl⟩
    rw [List.length_map, List.length_map, List.length_take]; exact sl64 (by omega)
  · rintro i x us H' hx ⟨rfl, rfl⟩
    obtain ⟨y, hy, rfl⟩ := strV_get hx
    walk_at "step"
    refine .inl (v_in (.inr hb) rfl (flat_strV _) ?_)
    rw [inV_strV]
    refine ⟨rfl, ?_⟩
    rw [List.take_add_one, hy]
    simp
  · rintro us H' ⟨rfl, rfl⟩ p hp
    rw [strV_len, List.take_length]
    walk_at "step"
    refine v_any (SqL.of upd_same) ?_
    rw [List.any_map]
    exact q _ (Same.new hp _)

def sp_kept_by_shuts (K : PySem.W.Frag) : Sp := fun vs H Q _ => ∃ v a ys x rs, vs = [v, .ref a, .str x] ∧ Rws K H v rs ∧ SqT K H a (strV ys) ∧ ys.length ≤ 1000 ∧ (∃ r ∈ rs, Row.name r = x) ∧ ∀ H', Same H H' → Q (.int (keptF rs ys x)) H'
theorem len_kept_by_shuts (K : PySem.W.Frag) : ∀ vs H Q E, sp_kept_by_shuts K vs H Q E → vs.length = ["book", "names", "name"].length := by rintro vs H Q E ⟨v, a, ys, x, rs, rfl, _⟩; rfl
def R_kept_by_shuts (K : PySem.W.Frag) : TS :=
 (tSeq (tAsg (tOp (rIxA K) (tCall (sp_row_of K) [] E0 (tCons (tVar 0) (tCons (tVar 2) tNil))) (tC (.int 3))) (gName 3))
 (tSeq (tAsg (tOp (rI0 fun i j => .int (i - j)) (tCB (rLenA K) (tCons (tVar 1) tNil)) (tCB (rLenA K) (tCons (tCall (sp_near_of K) [] E0 (tCons (tVar 0) (tCons (tVar 1) tNil))) tNil))) (gName 4))
 (tSeq (tFor (iRng2 (tCons (tVar 4) (tCons (tCB (rLenA K) (tCons (tVar 1) tNil)) tNil))) (gName 5)
 (tIfS (tTest (tOp (rInB K false) (tOp (rIxA K) (tVar 1) (tVar 5)) (tVar 3)))
 (tRet (tVar 5)) tNext))
 (tRet (tCB (rLenA K) (tCons (tVar 1) tNil))))))
theorem rd_kept_by_shuts (h : sp_kept_by_shuts K vs H Q E) : R_kept_by_shuts K { nx := fun _ H' => Q .non H', rt := Q } (start ["book", "names", "name", "shuts", "first_near", "number"] vs) H := by
  obtain ⟨v, a, ys, x, rs, rfl, hR, hq, hl, hx, q⟩ := h
  show R_kept_by_shuts K _ [some v, some (.ref a), some (.str x), none, none, none] H
  unfold R_kept_by_shuts
  obtain ⟨r, er, mr, nr⟩ := row_ex hx
  have hsh : shutsOf rs x = r.shuts := by unfold shutsOf; rw [er]
  walk_at "step"
  refine ⟨v, some x, rs, rfl, hR, fun e => (by rw [er] at e; cases e), fun r2 u e hu => ?_⟩
  rw [er] at e
  injection e with e
  subst e
  obtain ⟨b, ps, pb, rfl, hb, h1, h2⟩ := row_tup hu
  walk_at "step"
  refine v_ixT hb rfl ?_
  walk_at "step"
  refine v_lenQ (.inr hq) ?_
  rw [strV_len]
  walk_at "step"
  refine ⟨v, a, ys, rs, rfl, hR, hq, hl, fun p H1 s1 hp => ?_⟩
  have nl := near_len rs ys.length ys rfl
  walk_at "step"
  refine v_lenQ (.inr hp) ?_
  rw [strV_len]
  walk_at "step"
  refine v_lenQ (.inr (s1.sqT hq)) ?_
  rw [strV_len]
  have e1 : (ys.length : Int) - ((near rs ys).length : Int) = ((ys.length - (near rs ys).length : Nat) : Int) := by omega
  rw [e1]
  refine rng2_for (by omega) (by omega) (by omega) (fun i σ H' => H' = H1 ∧ (∃ w, σ = [some v, some (.ref a), some (.str x), some (.ref ps), some (.int ((ys.length - (near rs ys).length : Nat) : Int)), w]) ∧ keptF rs ys x = kpt ys r.shuts (ys.length - (near rs ys).length + i) ((near rs ys).length - i)) ⟨rfl, ⟨_, rfl⟩, by unfold keptF; rw [hsh]; rfl⟩ ?_ ?_
  · rintro i σ H' hi ⟨rfl, ⟨w, rfl⟩, hk⟩
    obtain ⟨m, hm⟩ : ∃ m : Nat, (near rs ys).length - i = m + 1 := ⟨(near rs ys).length - i - 1, by omega⟩
    have e2 : ((ys.length - (near rs ys).length : Nat) : Int) + (i : Int) = ((ys.length - (near rs ys).length + i : Nat) : Int) := by omega
    rw [hm, kpt] at hk
    rw [e2]
    walk_at "step"
    refine v_ixT (s1.sqT hq) (at_str (by omega)) ?_
    walk_at "step"
    refine .inl (v_in (.inr (s1.sqT h1)) rfl (flat_strV _) ?_)
    rw [inV_strV]
    walk_at "step"
    by_cases hs : gd ys (ys.length - (near rs ys).length + i) ∈ r.shuts
    · rw [decide_eq_true hs]
      refine iteT ?_
      walk_at "step"
      rw [if_pos hs] at hk
      rw [hk] at q
      exact q _ s1
    · rw [decide_eq_false hs]
      refine iteF ?_
      walk_at "step"
      rw [if_neg hs] at hk
      exact ⟨rfl, ⟨_, rfl⟩, by rw [hk, show (near rs ys).length - (i + 1) = m by omega]; rfl⟩
  · rintro σ H' ⟨rfl, ⟨w, rfl⟩, hk⟩
    walk_at "step"
    refine v_lenQ (.inr (s1.sqT hq)) ?_
    rw [strV_len]
    have e3 : (((ys.length : Int) - ((ys.length - (near rs ys).length : Nat) : Int))).toNat = (near rs ys).length := by omega
    rw [e3, Nat.sub_self, kpt, show ys.length - (near rs ys).length + (near rs ys).length = ys.length by omega] at hk
    rw [hk] at q
    exact q _ s1

def sp_is_barred (K : PySem.W.Frag) : Sp := fun vs H Q _ => ∃ v a b ks ps rs, vs = [v, .ref a, .ref b] ∧ Rws K H v rs ∧ SqT K H a (strV ks) ∧ SqT K H b (strV ps) ∧ ks.length ≤ 100 ∧ ps.length ≤ 100 ∧ (∀ z ∈ ps, ∃ r ∈ rs, Row.name r = z) ∧ ∀ H', Same H H' → Q (.bl (bar rs ks ps)) H'
theorem len_is_barred (K : PySem.W.Frag) : ∀ vs H Q E, sp_is_barred K vs H Q E → vs.length = ["book", "kept", "put"].length := by rintro vs H Q E ⟨v, a, b, ks, ps, rs, rfl, _⟩; rfl
def R_is_barred (K : PySem.W.Frag) : TS :=
 (tSeq (tFor (iEnumT K (tCons (tVar 2) tNil)) (gTup K 2 (gCons (gName 3) (gCons (gName 4) gNil)))
 (tSeq (tAsg (tCall (sp_near_of K) [] E0 (tCons (tVar 0) (tCons (tOp (rAddB K) (tVar 1) (tSl (rSlB K) (tVar 2) tNoPart (tPart (tVar 3)))) tNil))) (gName 5))
 (tIfS (tB (tCall (sp_share_a_name K) [] E0 (tCons (tVar 5) (tCons (tOp (rIxA K) (tCall (sp_row_of K) [] E0 (tCons (tVar 0) (tCons (tVar 4) tNil))) (tC (.int 4))) tNil))))
 (tRet (tC (.bl true))) tNext)))
 (tRet (tC (.bl false))))
theorem rd_is_barred (h : sp_is_barred K vs H Q E) : R_is_barred K { nx := fun _ H' => Q .non H', rt := Q } (start ["book", "kept", "put", "number", "name", "near"] vs) H := by
  obtain ⟨v, a, b, ks, ps, rs, rfl, hR, ha, hb, hlk, hlp, hps, q⟩ := h
  show R_is_barred K _ [some v, some (.ref a), some (.ref b), none, none, none] H
  unfold R_is_barred
  walk_at "step"
  refine enumT_for hb (fun i σ H' => Same H H' ∧ ∃ (a3 a4 a5 : Option V), σ = [some v, some (.ref a), some (.ref b), a3, a4, a5] ∧ bar rs ks ps = bar rs (ks ++ ps.take i) (ps.drop i)) ⟨Same.refl _, none, none, none, rfl, by simp⟩ (fun i σ H' p => p.1.sqT hb) ?_ ?_
  · rintro i x σ H' p hx ⟨s1, a3, a4, a5, rfl, hbr⟩ hp
    obtain ⟨y, hy, rfl⟩ := strV_get hx
    have il := (List.getElem?_eq_some_iff.mp hy).1
    have etk : ps.take (i + 1) = ps.take i ++ [y] := by rw [List.take_add_one, hy]; rfl
    have edr : ps.drop i = y :: ps.drop (i + 1) := by
      obtain ⟨hil, he⟩ := List.getElem?_eq_some_iff.mp hy
      rw [List.drop_eq_getElem_cons hil, he]
    rw [edr, bar] at hbr
    have s2 : Same H (upd H' p (.tup [.int (i : Int), .str y])) := Same.tr s1 (Same.new hp _)
    obtain ⟨r, er, mr, nr⟩ := row_ex (hps y (List.mem_of_getElem? hy))
    have hba : barsOf rs y = r.bars := by unfold barsOf; rw [er]
    refine ⟨p, _, rfl, SqT.of upd_same, rfl, _, _, rfl, st_name ⟨_, _, rfl, st_name ⟨rfl, ?_⟩⟩⟩
    walk_at "step"
    refine v_slT (s2.sqT hb) fun p3 H3 s3 hp3 => ?_
    rw [cut_take] at hp3
    have s23 := Same.tr s2 s3
    refine v_catT (s23.sqT ha) hp3 (by rw [strV_len, strV_len, List.length_take]; exact sl64 (by omega)) fun p4 H4 s4 hp4 => ?_
    have e4 : strV ks ++ strV (ps.take i) = strV (ks ++ ps.take i) := by simp [strV]
    rw [e4] at hp4
    have s24 := Same.tr s23 s4
    walk_at "step"
    refine ⟨v, p4, ks ++ ps.take i, rs, rfl, hR.same s24, hp4, by rw [List.length_append, List.length_take]; omega, fun p5 H5 s5 hp5 => ?_⟩
    have s25 := Same.tr s24 s5
    have nl := near_len rs _ (ks ++ ps.take i) rfl
    rw [List.length_append, List.length_take] at nl
    walk_at "step"
    refine ⟨v, some y, rs, rfl, hR.same s25, fun e => (by rw [er] at e; cases e), fun r2 u e hu => ?_⟩
    rw [er] at e
    injection e with e
    subst e
    obtain ⟨b6, p6, p7, rfl, hb6, _, h7⟩ := row_tup hu
    walk_at "step"
    refine v_ixT hb6 rfl ?_
    walk_at "step"
    refine ⟨p5, p7, near rs (ks ++ ps.take i), r.bars, rfl, hp5, h7, by omega, fun H8 s8 => ?_⟩
    have s28 := Same.tr s25 s8
    walk_at "step"
    rw [hba] at hbr
    cases hc : (near rs (ks ++ ps.take i)).any (fun z => decide (z ∈ r.bars)) with
    | true =>
      refine iteT ?_
      walk_at "step"
      rw [hc, Bool.true_or] at hbr
      rw [hbr] at q
      exact q _ s28
    | false =>
      refine iteF ?_
      walk_at "step"
      rw [hc, Bool.false_or] at hbr
      exact ⟨s28, _, _, _, rfl, by rw [hbr, etk, List.append_assoc]⟩
  · rintro σ H' ⟨s1, a3, a4, a5, rfl, hbr⟩
    walk_at "step"
    rw [strV_len, List.drop_length, bar] at hbr
    rw [hbr] at q
    exact q _ s1

def sp_wanted_by_guest (K : PySem.W.Frag) : Sp := fun vs H Q _ => ∃ v a ys x rs, vs = [v, .ref a, .str x] ∧ Rws K H v rs ∧ Boo rs ∧ SqT K H a (strV ys) ∧ ys.length ≤ 1000 ∧ (∃ r ∈ rs, Row.name r = x) ∧ ∀ p p2 H', Same H H' → SqT K H' p [.int (guestF rs ys x).1, .ref p2] → SqT K H' p2 (strV (guestF rs ys x).2) → Q (.ref p) H'
theorem len_wanted_by_guest (K : PySem.W.Frag) : ∀ vs H Q E, sp_wanted_by_guest K vs H Q E → vs.length = ["book", "names", "name"].length := by rintro vs H Q E ⟨v, a, ys, x, rs, rfl, _⟩; rfl
def R_wanted_by_guest (K : PySem.W.Frag) : TS :=
 (tSeq (tAsg (tCall (sp_hosts_within K) [] E0 (tCons (tVar 0) (tCons (tCall (sp_straight_above K) [] E0 (tCons (tVar 1) tNil)) tNil))) (gName 3))
 (tSeq (tIfS (tTest (tOp rGtA (tCB (rLenA K) (tCons (tVar 3) tNil)) (tC (.int 0))))
 (tRet (tTup (tCons (tCB (rLenA K) (tCons (tVar 1) tNil)) (tCons (tOp (rAddB K) (tVar 3) (tTup (tCons (tVar 2) tNil))) tNil)))) tNext)
 (tRet (tTup (tCons (tCall (sp_kept_by_shuts K) [] E0 (tCons (tVar 0) (tCons (tVar 1) (tCons (tVar 2) tNil)))) (tCons (tTup (tCons (tVar 2) tNil)) tNil))))))
theorem rd_wanted_by_guest (h : sp_wanted_by_guest K vs H Q E) : R_wanted_by_guest K { nx := fun _ H' => Q .non H', rt := Q } (start ["book", "names", "name", "hosts"] vs) H := by
  obtain ⟨v, a, ys, x, rs, rfl, hR, B, hq, hl, hx, q⟩ := h
  show R_wanted_by_guest K _ [some v, some (.ref a), some (.str x), none] H
  unfold R_wanted_by_guest
  walk_at "step"
  refine ⟨a, ys, rfl, .inr hq, ?_⟩
  walk_at "step"
  refine ⟨v, _, rs, rfl, hR, B, fun p H1 s1 hp => ?_⟩
  have hlen : (hostsOf rs (lastOf ys)).length ≤ 12 := downs_len rs 12 _
  walk_at "step"
  refine v_lenQ (.inr hp) ?_
  rw [strV_len]
  walk_at "step"
  by_cases h0 : hostsOf rs (lastOf ys) = []
  · rw [decide_eq_false (by rw [h0]; simp)]
    refine iteF ?_
    have eg : guestF rs ys x = (keptF rs ys x, [x]) := by unfold guestF; rw [if_pos h0]
    walk_at "step"
    refine ⟨v, a, ys, x, rs, rfl, hR.same s1, s1.sqT hq, hl, hx, fun H2 s2 => ?_⟩
    walk_at "step"
    refine ⟨sl64 (by simp), fun p3 hp3 => ?_⟩
    walk_at "step"
    refine ⟨sl64 (by simp), fun p4 hp4 => ?_⟩
    rw [eg] at q
    exact q p4 p3 _ (Same.tr s1 (Same.tr s2 (Same.tr (Same.new hp3 _) (Same.new hp4 _)))) (SqT.of upd_same) ((Same.new hp4 _).sqT (SqT.of upd_same))
  · rw [decide_eq_true (by have := List.length_pos_iff.mpr h0; omega)]
    refine iteT ?_
    have eg : guestF rs ys x = (ys.length, hostsOf rs (lastOf ys) ++ [x]) := by unfold guestF; rw [if_neg h0]
    walk_at "step"
    refine v_lenQ (.inr (s1.sqT hq)) ?_
    rw [strV_len]
    walk_at "step"
    refine ⟨sl64 (by simp), fun p3 hp3 => ?_⟩
    refine v_catT ((Same.new hp3 _).sqT hp) (SqT.of upd_same) (by rw [strV_len]; exact sl64 (by simp; omega)) fun p4 H4 s4 hp4 => ?_
    rw [strV_app] at hp4
    walk_at "step"
    refine ⟨sl64 (by simp), fun p5 hp5 => ?_⟩
    rw [eg] at q
    exact q p5 p4 _ (Same.tr s1 (Same.tr (Same.new hp3 _) (Same.tr s4 (Same.new hp5 _)))) (SqT.of upd_same) ((Same.new hp5 _).sqT hp4)

def spn_wanted (n : Nat) (K : PySem.W.Frag) : Sp := fun vs H Q _ => ∃ v a ys x rs rk, vs = [v, .ref a, .str x] ∧ Rws K H v rs ∧ Boo rs ∧ Falls rs rk ∧ SqT K H a (strV ys) ∧ ys.length ≤ 1000 ∧ (∃ r ∈ rs, Row.name r = x) ∧ rk x ≤ n ∧ n ≤ 50 ∧ ∀ p p2 H', Same H H' → SqT K H' p [.int (wantF rs rk ys n x).1, .ref p2] → SqT K H' p2 (strV (wantF rs rk ys n x).2) → Q (.ref p) H'
def sp_wanted (K : PySem.W.Frag) : Sp := spn_wanted 13 K
def prev_wanted (K : PySem.W.Frag) : Nat → Sp
  | 0 => fun _ _ _ _ => False
  | n + 1 => spn_wanted n K
theorem len_wanted (K : PySem.W.Frag) (n : Nat) : ∀ vs H Q E, spn_wanted n K vs H Q E → vs.length = ["book", "names", "name"].length := by rintro vs H Q E ⟨v, a, ys, x, rs, rk, rfl, _⟩; rfl
def R_wanted (K : PySem.W.Frag) (spr : Sp) : TS :=
 (tSeq (tAsg (tCall (sp_frame_of K) [] E0 (tCons (tVar 0) (tCons (tVar 2) tNil))) (gName 3))
 (tSeq (tIfS (tTest (tOp rIsA (tVar 3) (tC .non)))
 (tRet (tCall (sp_wanted_by_guest K) [] E0 (tCons (tVar 0) (tCons (tVar 1) (tCons (tVar 2) tNil))))) tNext)
 (tSeq (tAsg (tCall (sp_closing K) [] E0 (tCons (tVar 0) (tCons (tVar 1) (tCons (tVar 3) tNil)))) (gName 4))
 (tSeq (tIfS (tTest (tOp rIsNotA (tVar 4) (tC .non)))
 (tRet (tTup (tCons (tOp (rAddB K) (tVar 4) (tC (.int 1))) (tCons (tTup (tCons (tVar 2) tNil)) tNil)))) tNext)
 (tSeq (tAsg (tCall spr [] E0 (tCons (tVar 0) (tCons (tVar 1) (tCons (tVar 3) tNil)))) (gName 5))
 (tRet (tTup (tCons (tOp (rIxA K) (tVar 5) (tC (.int 0))) (tCons (tOp (rAddB K) (tOp (rIxA K) (tVar 5) (tC (.int 1))) (tTup (tCons (tVar 2) tNil))) tNil)))))))))
theorem rd_wanted (n : Nat) (h : spn_wanted n K vs H Q E) : R_wanted K (prev_wanted K n) { nx := fun _ H' => Q .non H', rt := Q } (start ["book", "names", "name", "frame", "number", "plan"] vs) H := by
  obtain ⟨v, a, ys, x, rs, rk, rfl, hR, B, f, hq, hl, hx, hn, hn50, q⟩ := h
  show R_wanted K _ _ [some v, some (.ref a), some (.str x), none, none, none] H
  unfold R_wanted
  have ew : ∃ rec, wantF rs rk ys n x = wstep rs rk ys rec x ∧ ∀ m, n = m + 1 → rec = wantF rs rk ys m := by
    cases n with
    | zero => exact ⟨_, rfl, fun m h => by cases h⟩
    | succ m => exact ⟨_, rfl, fun k h => by injection h with h; rw [h]⟩
  obtain ⟨rec, ew, hrec⟩ := ew
  rw [ew] at q
  unfold wstep at q
  walk_at "step"
  refine ⟨v, some x, rs, rfl, hR, ?_⟩
  walk_at "step"
  cases ef : frameOf rs (some x) with
  | none =>
    rw [ef] at q
    dsimp only at q
    rw [decide_eq_true (show oV none = V.non from rfl)]
    refine iteT ?_
    walk_at "step"
    exact ⟨v, a, ys, x, rs, rfl, hR, B, hq, hl, hx, q⟩
  | some y =>
    rw [ef] at q
    dsimp only at q
    have hyx := f x y ef
    obtain ⟨ry, my, ny, _⟩ := frame_row ef
    rw [decide_eq_false (show ¬ oV (some y) = V.non by simp [oV])]
    refine iteF ?_
    walk_at "step"
    refine ⟨v, a, ys, y, rs, rk, rfl, hR, f, .inr hq, hl, ?_⟩
    walk_at "step"
    cases ec : clo rs rk ys y ys.length with
    | some k =>
      rw [ec] at q
      dsimp only at q
      rw [decide_eq_false (show ¬ nV (some k) = V.non by simp [nV]), Bool.not_false]
      refine iteT ?_
      walk_at "step"
      refine .inl (v_addI ?_)
      walk_at "step"
      refine ⟨sl64 (by simp), fun p3 hp3 => ?_⟩
      walk_at "step"
      refine ⟨sl64 (by simp), fun p4 hp4 => ?_⟩
      exact q p4 p3 _ (Same.tr (Same.new hp3 _) (Same.new hp4 _)) (SqT.of upd_same) ((Same.new hp4 _).sqT (SqT.of upd_same))
    | none =>
      rw [ec] at q
      dsimp only at q
      rw [decide_eq_true (show nV none = V.non from rfl), Bool.not_true]
      refine iteF ?_
      obtain ⟨m, rfl⟩ : ∃ m, n = m + 1 := ⟨n - 1, by omega⟩
      rw [hrec m rfl] at q
      have wk := want_ok B f (ys := ys) m y ⟨ry, my, ny⟩ (by omega)
      walk_at "step"
      refine ⟨v, a, ys, y, rs, rk, rfl, hR, B, f, hq, hl, ⟨ry, my, ny⟩, by omega, by omega, fun p p2 H1 s1 hp hp2 => ?_⟩
      walk_at "step"
      refine v_ixT hp rfl ?_
      walk_at "step"
      refine v_ixT hp rfl ?_
      walk_at "step"
      refine ⟨sl64 (by simp), fun p3 hp3 => ?_⟩
      refine v_catT ((Same.new hp3 _).sqT hp2) (SqT.of upd_same) (by rw [strV_len]; exact sl64 (by have := wk.l; simp; omega)) fun p4 H4 s4 hp4 => ?_
      rw [strV_app] at hp4
      walk_at "step"
      refine ⟨sl64 (by simp), fun p5 hp5 => ?_⟩
      exact q p5 p4 _ (Same.tr s1 (Same.tr (Same.new hp3 _) (Same.tr s4 (Same.new hp5 _)))) (SqT.of upd_same) ((Same.new hp5 _).sqT hp4)

def sp_opening (K : PySem.W.Frag) : Sp := fun vs H Q _ => ∃ v a ys x rs rk, vs = [v, .ref a, .str x] ∧ Rws K H v rs ∧ Boo rs ∧ Falls rs rk ∧ SqT K H a (strV ys) ∧ ys.length ≤ 50 ∧ (∃ r ∈ rs, Row.name r = x) ∧ rk x ≤ 13 ∧ ∀ p H', Same H H' → Dv K H' (planF rs rk ys x) (.ref p) → Q (.ref p) H'
theorem len_opening (K : PySem.W.Frag) : ∀ vs H Q E, sp_opening K vs H Q E → vs.length = ["book", "names", "name"].length := by rintro vs H Q E ⟨v, a, ys, x, rs, rk, rfl, _⟩; rfl
def R_opening (K : PySem.W.Frag) : TS :=
 (tSeq (tAsg (tCall (sp_wanted K) [] E0 (tCons (tVar 0) (tCons (tVar 1) (tCons (tVar 2) tNil)))) (gName 3))
 (tSeq (tAsg (tCB (rTupleA K) (tCons (tSl (rSlB K) (tVar 1) tNoPart (tPart (tOp (rIxA K) (tVar 3) (tC (.int 0))))) tNil)) (gName 4))
 (tSeq (tAsg (tOp (rIxA K) (tVar 3) (tC (.int 1))) (gName 5))
 (tSeq (tIfS (tB (tCall (sp_is_barred K) [] E0 (tCons (tVar 0) (tCons (tVar 4) (tCons (tVar 5) tNil)))))
 (tRet (tTup (tCons (tC (.str ("drop" : Str))) (tCons (tC (.str ("barred" : Str))) tNil)))) tNext)
 (tSeq (tIfS (tTest (tOp rGtA (tOp (rAddB K) (tCB (rLenA K) (tCons (tVar 4) tNil)) (tCB (rLenA K) (tCons (tVar 5) tNil))) (tC (.int 20))))
 (tRet (tTup (tCons (tC (.str ("drop" : Str))) (tCons (tC (.str ("deep" : Str))) tNil)))) tNext)
 (tRet (tTup (tCons (tC (.str ("open" : Str))) (tCons (tCB (rLenA K) (tCons (tVar 4) tNil)) (tCons (tVar 5) tNil))))))))))
theorem rd_opening (h : sp_opening K vs H Q E) : R_opening K { nx := fun _ H' => Q .non H', rt := Q } (start ["book", "names", "name", "plan", "kept", "put"] vs) H := by
  obtain ⟨v, a, ys, x, rs, rk, rfl, hR, B, f, hq, hl, hx, hn, q⟩ := h
  show R_opening K _ [some v, some (.ref a), some (.str x), none, none, none] H
  unfold R_opening
  have wk := want_ok B f (ys := ys) 13 x hx hn
  walk_at "step"
  refine ⟨v, a, ys, x, rs, rk, rfl, hR, B, f, hq, by omega, hx, hn, by decide, fun p p2 H1 s1 hp hp2 => ?_⟩
  have wkk := wk.k
  have wkl := wk.l
  have il : (ys.take (wantF rs rk ys 13 x).1).length = (wantF rs rk ys 13 x).1 := by rw [List.length_take]; omega
  unfold planF at q
  generalize wantF rs rk ys 13 x = W at *
  walk_at "step"
  refine v_ixT hp rfl ?_
  walk_at "step"
  refine v_slT (s1.sqT hq) fun p3 H3 s3 hp3 => ?_
  rw [cut_take] at hp3
  walk_at "step"
  refine ⟨p3, _, rfl, .inr ⟨hp3, ?_⟩⟩
  walk_at "step"
  refine v_ixT (s3.sqT hp) rfl ?_
  walk_at "step"
  refine ⟨v, p3, p2, _, _, rs, rfl, hR.same (Same.tr s1 s3), hp3, s3.sqT hp2, by omega, by omega, wk.m, fun H4 s4 => ?_⟩
  have s14 := Same.tr s1 (Same.tr s3 s4)
  walk_at "step"
  cases hb : bar rs (ys.take W.1) W.2 with
  | true =>
    rw [hb, if_pos rfl] at q
    refine iteT ?_
    walk_at "step"
    refine ⟨sl64 (by simp), fun p5 hp5 => ?_⟩
    exact q p5 _ (Same.tr s14 (Same.new hp5 _)) (dv_tuple.mpr ⟨p5, _, rfl, SqT.of upd_same, dvs_cons (dv_str.mpr rfl) (dvs_cons (dv_str.mpr rfl) dvs_nil)⟩)
  | false =>
    rw [hb, if_neg Bool.false_ne_true] at q
    refine iteF ?_
    walk_at "step"
    refine v_lenQ (.inr (s4.sqT hp3)) ?_
    rw [strV_len, il]
    walk_at "step"
    refine v_lenQ (.inr ((Same.tr s3 s4).sqT hp2)) ?_
    rw [strV_len]
    refine .inl (v_addI ?_)
    walk_at "step"
    by_cases h20 : 20 < W.1 + W.2.length
    · rw [if_pos h20] at q
      rw [decide_eq_true (by omega)]
      refine iteT ?_
      walk_at "step"
      refine ⟨sl64 (by simp), fun p5 hp5 => ?_⟩
      exact q p5 _ (Same.tr s14 (Same.new hp5 _)) (dv_tuple.mpr ⟨p5, _, rfl, SqT.of upd_same, dvs_cons (dv_str.mpr rfl) (dvs_cons (dv_str.mpr rfl) dvs_nil)⟩)
    · rw [if_neg h20] at q
      rw [decide_eq_false (by omega)]
      refine iteF ?_
      walk_at "step"
      refine v_lenQ (.inr (s4.sqT hp3)) ?_
      rw [strV_len, il]
      walk_at "step"
      refine ⟨sl64 (by simp), fun p5 hp5 => ?_⟩
      have s5 := Same.new hp5 (.tup [.str ("open" : Str), .int (W.1 : Int), .ref p2])
      exact q p5 _ (Same.tr s14 s5) (dv_tuple.mpr ⟨p5, _, rfl, SqT.of upd_same, dvs_cons (dv_str.mpr rfl) (dvs_cons (dv_int.mpr rfl) (dvs_cons (dv_tuple.mpr ⟨p2, _, rfl, (Same.tr (Same.tr s3 s4) s5).sqT hp2, dvs_sDa.mpr rfl⟩) dvs_nil))⟩)

end My

namespace My
open PySem L2
variable {K : PySem.W.Frag} {vs : List V} {H : Hp} {Q : VK} {E : XK}

section
variable {rs : List Row} {rk : Str → Nat}
theorem snoc_of {α : Type} {xs : List α} (h : xs ≠ []) : ∃ ys y, xs = ys ++ [y] := ⟨xs.dropLast, xs.getLast h, (List.dropLast_concat_getLast h).symm⟩
theorem near_st (rs : List Row) : ∀ (n : Nat) (ys : List Str), ys.length = n → near rs ys = ys.drop (ys.length - (near rs ys).length)
  | 0, ys, h => by rw [List.length_eq_zero_iff.mp h]; rfl
  | n + 1, ys, h => by
    obtain ⟨zs, z, rfl⟩ := snoc_of (xs := ys) (fun e => by rw [e] at h; cases h)
    have hz : zs.length = n := by rw [List.length_append, List.length_singleton] at h; omega
    have ih := near_st rs n zs hz
    have nl := near_len rs n zs hz
    rw [near_snoc]
    by_cases hw : wall rs z = true
    · rw [if_pos hw]; simp
    · rw [if_neg hw, List.length_append, List.length_append, List.length_singleton, show zs.length + 1 - ((near rs zs).length + 1) = zs.length - (near rs zs).length by omega, List.drop_append_of_le_length (by omega), ← ih]
theorem near_take (rs : List Row) : ∀ (n : Nat) (ys : List Str) (k : Nat), ys.length = n → ys.length - (near rs ys).length ≤ k → k ≤ ys.length → near rs (ys.take k) = (ys.take k).drop (ys.length - (near rs ys).length)
  | 0, ys, k, h, _, _ => by rw [List.length_eq_zero_iff.mp h]; simp [near]
  | n + 1, ys, k, h, h1, h2 => by
    by_cases hk : k = ys.length
    · rw [hk, List.take_length]; exact near_st rs (n + 1) ys h
    · obtain ⟨zs, z, rfl⟩ := snoc_of (xs := ys) (fun e => by rw [e] at h; cases h)
      have hz : zs.length = n := by rw [List.length_append, List.length_singleton] at h; omega
      have nl := near_len rs n zs hz
      rw [List.length_append, List.length_singleton] at h1 h2 hk
      rw [near_snoc] at h1 ⊢
      by_cases hw : wall rs z = true
      · rw [if_pos hw] at h1; simp at h1; omega
      · rw [if_neg hw, List.length_append, List.length_singleton] at h1
        rw [if_neg hw, List.length_append, List.length_append, List.length_singleton, show zs.length + 1 - ((near rs zs).length + 1) = zs.length - (near rs zs).length by omega, List.take_append_of_le_length (by omega)]
        exact near_take rs n zs k hz (by omega) (by omega)
theorem kpt_min (ys sh : List Str) : ∀ m k j, k ≤ j → j < kpt ys sh k m → gd ys j ∉ sh
  | 0, k, j, h1, h2 => by rw [kpt] at h2; omega
  | m + 1, k, j, h1, h2 => by
    rw [kpt] at h2
    split at h2
    · omega
    · rename_i hn
      by_cases e : k = j
      · subst e; exact hn
      · exact kpt_min ys sh m (k + 1) j (by omega) h2
theorem kpt_mem (ys sh : List Str) : ∀ m k, kpt ys sh k m < k + m → gd ys (kpt ys sh k m) ∈ sh
  | 0, k, h => by rw [kpt] at h; omega
  | m + 1, k, h => by
    rw [kpt] at h ⊢
    split
    · assumption
    · rename_i hn
      rw [if_neg hn] at h
      exact kpt_mem ys sh m (k + 1) (by omega)
theorem kpt_ge (ys sh : List Str) : ∀ m k, k ≤ kpt ys sh k m
  | 0, k => Nat.le_refl _
  | m + 1, k => by
    rw [kpt]
    split
    · exact Nat.le_refl _
    · have := kpt_ge ys sh m (k + 1); omega
theorem frame_eq (B : Boo rs) {r : Row} (h : r ∈ rs) (hf : r.sort = ("frame" : Str)) : frameOf rs (some r.host) = some r.name := by
  cases e : frameOf rs (some r.host) with
  | none =>
    unfold frameOf at e
    rw [Option.map_eq_none_iff, List.find?_eq_none] at e
    exact absurd (e r h) (by simp [hf])
  | some y =>
    obtain ⟨r', hr', rfl, hf', hh⟩ := frame_row e
    rw [B.uq r' hr' r h hf' hf hh]
theorem lastOf_snoc (xs : List Str) (y : Str) : lastOf (xs ++ [y]) = y := by
  unfold lastOf
  rw [List.length_append, List.length_singleton, Nat.add_sub_cancel]; exact gd_end
theorem host_row {x y : Str} (e : hostOf rs (some x) = some y) : ∃ r ∈ rs, rowOf rs (some x) = some r ∧ r.name = x ∧ r.sort = ("frame" : Str) ∧ r.host = y := by
  unfold hostOf at e
  cases er : rowOf rs (some x) with
  | none => rw [er] at e; cases e
  | some r =>
    rw [er] at e
    obtain ⟨hr, hn⟩ := row_some er
    by_cases hf : r.sort = ("frame" : Str)
    · have e : some r.host = some y := by simpa [hf] using e
      exact ⟨r, hr, rfl, hn, hf, Option.some.inj e⟩
    · simp [hf] at e
theorem frame_wall {r : Row} {x : Str} (er : rowOf rs (some x) = some r) (hf : r.sort = ("frame" : Str)) : wall rs x = true := by
  unfold wall; rw [er]; simp [hf]
/-- z may stand behind there, but for bars and depth -/
structure Gz (rs : List Row) (there : List Str) (z : Str) : Prop where
  f : frameFit rs (lastOf there) z = true
  h : hostFit rs (lastOf there) z = true
  s : ∀ w ∈ near rs there, w ∉ shutsOf rs z
def Sq (rs : List Row) (there put : List Str) : Prop := ∀ i, i < put.length → Gz rs (there ++ put.take i) (gd put i)
theorem sq_app {there put : List Str} {z : Str} (h : Sq rs there put) (g : Gz rs (there ++ put) z) : Sq rs there (put ++ [z]) := fun i hi => by
  rw [List.length_append, List.length_singleton] at hi
  by_cases e : i < put.length
  · rw [List.take_append_of_le_length (by omega), gd_app e]; exact h i e
  · have : i = put.length := by omega
    subst this
    rw [List.take_append_of_le_length (Nat.le_refl _), List.take_length, gd_end]; exact g
theorem sq_cons {there put : List Str} {z : Str} (g : Gz rs there z) (h : Sq rs (there ++ [z]) put) : Sq rs there (z :: put) := fun i hi => by
  cases i with
  | zero => rw [List.take_zero, List.append_nil]; exact g
  | succ i =>
    have := h i (by rw [List.length_cons] at hi; omega)
    rw [List.append_assoc] at this
    exact this
theorem gz_host (B : Boo rs) {there : List Str} {r : Row} (hr : r ∈ rs) (hf : r.sort = ("frame" : Str)) : Gz rs (there ++ [r.name]) r.host := by
  have er := rowOf_mem B.nd hr
  refine ⟨?_, ?_, fun w hw => ?_⟩
  · unfold frameFit
    rw [frS_eq B, frame_eq B hr hf, lastOf_snoc]; simp
  · unfold hostFit; rw [lastOf_snoc, er]; simp
  · rw [near_snoc, if_pos (frame_wall er hf)] at hw; cases hw
theorem sq_hosts (B : Boo rs) : ∀ (m : Nat) (there : List Str) (x : Str), Sq rs (there ++ [x]) (downs rs m (some x))
  | 0, _, _ => fun i hi => by cases hi
  | m + 1, there, x => by
    rw [downs]
    cases e : hostOf rs (some x) with
    | none => exact fun i hi => by cases hi
    | some h =>
      obtain ⟨r, hr, _, rfl, hf, rfl⟩ := host_row e
      exact sq_cons (gz_host B hr hf) (sq_hosts B m (there ++ [r.name]) r.host)
theorem plain_of (B : Boo rs) {x y : Str} (e : hostOf rs (some x) = some y) (en : hostOf rs (some y) = none) : wall rs y = false := by
  obtain ⟨r, hr, _, rfl, hf, rfl⟩ := host_row e
  obtain ⟨k, _, h2⟩ := B.rk
  obtain ⟨⟨r', hr', en', hp⟩, _⟩ := h2 r hr hf
  have er := rowOf_mem B.nd hr'
  rw [en'] at er
  unfold hostOf at en
  rw [er] at en
  have hs : r'.sort = ("plain" : Str) := by
    rcases hp with h | h
    · exact h
    · simp [h] at en
  unfold wall; rw [er]; dsimp only; rw [hs]; decide
theorem hosts_end (B : Boo rs) (f : Rise rs rk) : ∀ (n : Nat) (there : List Str) (x : Str), 12 - rk x ≤ n → hostsOf rs x ≠ [] →
    ∃ z, lastOf (there ++ [x] ++ hostsOf rs x) = z ∧ hostOf rs (some z) = none ∧ (∃ r ∈ rs, r.sort = ("frame" : Str) ∧ r.host = z) ∧ near rs (there ++ [x] ++ hostsOf rs x) = [z]
  | n, there, x, hn, hne => by
    cases e : hostOf rs (some x) with
    | none => exact absurd (hosts_none e) hne
    | some h =>
      obtain ⟨r, hr, er, rfl, hf, rfl⟩ := host_row e
      obtain ⟨f1, f2⟩ := f _ _ e
      rw [hosts_some f e]
      cases e2 : hostOf rs (some r.host) with
      | none =>
        rw [hosts_none e2]
        refine ⟨r.host, lastOf_snoc _ _, e2, ⟨r, hr, hf, rfl⟩, ?_⟩
        rw [near_snoc, near_snoc, if_pos (frame_wall er hf), plain_of B e e2]; rfl
      | some h2 =>
        cases n with
        | zero => omega
        | succ n =>
          have := hosts_end B f n (there ++ [r.name]) r.host (by omega) (by rw [hosts_some f e2]; simp)
          rw [show there ++ [r.name] ++ r.host :: hostsOf rs r.host = there ++ [r.name] ++ [r.host] ++ hostsOf rs r.host by simp]
          exact this
theorem gz_guest (B : Boo rs) (f : Rise rs rk) {ys : List Str} (hk : Stk rs ys) {x : Str} (hx : ∃ r ∈ rs, r.name = x) (hf : frameOf rs (some x) = none) : Sq rs (ys.take (guestF rs ys x).1) (guestF rs ys x).2 := by
  have f0 : ∀ l, frameFit rs l x = true := fun l => by unfold frameFit; rw [frS_eq B, hf]; simp
  obtain ⟨rx, ex, mx, nx⟩ := row_ex hx
  have hsh : shutsOf rs x = rx.shuts := by unfold shutsOf; rw [ex]
  unfold guestF
  by_cases h0 : hostsOf rs (lastOf ys) = []
  · rw [if_pos h0]
    intro i hi
    have : i = 0 := by have : i < 1 := hi; omega
    subst this
    show Gz rs (ys.take (keptF rs ys x) ++ []) x
    rw [List.append_nil]
    have nl := near_len rs ys.length ys rfl
    have kl := keptF_le rs ys x
    have kg : ys.length - (near rs ys).length ≤ keptF rs ys x := kpt_ge _ _ _ _
    refine ⟨f0 _, ?_, fun w hw hws => ?_⟩
    · by_cases e : keptF rs ys x = ys.length
      · rw [e, List.take_length]
        unfold hostFit
        cases er : rowOf rs (some (lastOf ys)) with
        | none => rfl
        | some r =>
          by_cases hfr : r.sort = ("frame" : Str)
          · have : hostOf rs (some (lastOf ys)) = some r.host := by unfold hostOf; rw [er]; simp [hfr]
            rw [hosts_some f this] at h0; cases h0
          · simp [hfr]
      · have hm := kpt_mem ys (shutsOf rs x) (near rs ys).length (ys.length - (near rs ys).length) (by unfold keptF at e kl; omega)
        have hm : gd ys (keptF rs ys x) ∈ shutsOf rs x := hm
        have hw := hk.w (keptF rs ys x) (by omega)
        unfold mayF at hw
        cases er : rowOf rs (some (gd ys (keptF rs ys x))) with
        | none => rw [er] at hw; cases hw
        | some r' =>
          rw [er] at hw
          dsimp only at hw
          rw [Bool.and_eq_true, Bool.and_eq_true, Bool.and_eq_true] at hw
          have hh := hw.2.2.1
          unfold hostFit at hh ⊢
          cases e2 : rowOf rs (some (lastOf (ys.take (keptF rs ys x)))) with
          | none => rfl
          | some r2 =>
            rw [e2] at hh
            by_cases hfr : r2.sort = ("frame" : Str)
            · have hh : r2.host = gd ys (keptF rs ys x) := by simpa [hfr] using hh
              rw [hsh] at hm
              exact absurd hh (B.nosh rx mx _ hm r2 (row_some e2).1 hfr)
            · simp [hfr]
    · rw [near_take rs ys.length ys (keptF rs ys x) rfl kg kl] at hw
      obtain ⟨j, hj, ej⟩ := List.getElem_of_mem hw
      have hj2 : j + (ys.length - (near rs ys).length) < keptF rs ys x := by
        rw [List.length_drop, List.length_take] at hj; omega
      have : w = gd ys (ys.length - (near rs ys).length + j) := by
        rw [← ej, List.getElem_drop, List.getElem_take]
        have := gd_get (l := ys) (i := ys.length - (near rs ys).length + j) (by omega)
        rw [List.getElem?_eq_getElem (by omega)] at this
        exact Option.some.inj this
      rw [this] at hws
      exact kpt_min ys (shutsOf rs x) (near rs ys).length (ys.length - (near rs ys).length) (ys.length - (near rs ys).length + j) (by omega) (by unfold keptF at hj2; omega) hws
  · rw [if_neg h0, List.take_length]
    have hne : ys ≠ [] := fun e => by rw [e] at h0; exact h0 (hosts_none (hostOf_empty B))
    obtain ⟨zs, z, rfl⟩ := snoc_of hne
    rw [lastOf_snoc] at h0 ⊢
    refine sq_app (sq_hosts B 12 zs z) ?_
    obtain ⟨w, hl, hno, ⟨r, hr, hfr, hrw⟩, hnr⟩ := hosts_end B f 12 zs z (by omega) h0
    refine ⟨f0 _, ?_, fun v hv hvs => ?_⟩
    · show hostFit rs (lastOf (zs ++ [z] ++ hostsOf rs z)) x = true
      rw [hl]
      unfold hostFit
      cases er : rowOf rs (some w) with
      | none => rfl
      | some r2 =>
        by_cases h2 : r2.sort = ("frame" : Str)
        · have : hostOf rs (some w) = some r2.host := by unfold hostOf; rw [er]; simp [h2]
          rw [this] at hno; cases hno
        · simp [h2]
    · have hv : v ∈ near rs (zs ++ [z] ++ hostsOf rs z) := hv
      rw [hnr] at hv
      rw [List.mem_singleton.mp hv, hsh] at hvs
      exact B.nosh rx mx w hvs r hr hfr hrw
theorem guest_last {ys : List Str} {x : Str} : ∃ ps, (guestF rs ys x).2 = ps ++ [x] := by
  unfold guestF
  split
  · exact ⟨[], rfl⟩
  · exact ⟨_, rfl⟩
theorem clo_is {ys : List Str} {x : Str} : ∀ {m k : Nat}, clo rs rk ys x m = some k → gd ys k = x
  | 0, k, h => by cases h
  | m + 1, k, h => by
    rw [clo] at h
    split at h
    · rename_i e; injection h with h; rw [← h]; exact e
    · split at h
      · cases h
      · exact clo_is h
theorem sq_want (B : Boo rs) (f : Rise rs rk) (fa : Falls rs rk) {ys : List Str} (hk : Stk rs ys) : ∀ (n : Nat) (x : Str), (∃ r ∈ rs, r.name = x) → rk x ≤ n → Sq rs (ys.take (wantF rs rk ys n x).1) (wantF rs rk ys n x).2 ∧ ∃ ps, (wantF rs rk ys n x).2 = ps ++ [x]
  | n, x, hx, hn => by
    have go : ∀ rec : Str → Nat × List Str, (∀ y, frameOf rs (some x) = some y → Sq rs (ys.take (rec y).1) (rec y).2 ∧ ∃ ps, (rec y).2 = ps ++ [y]) → Sq rs (ys.take (wstep rs rk ys rec x).1) (wstep rs rk ys rec x).2 ∧ ∃ ps, (wstep rs rk ys rec x).2 = ps ++ [x] := by
      intro rec hrec
      unfold wstep
      cases e : frameOf rs (some x) with
      | none => exact ⟨gz_guest B f hk hx e, guest_last⟩
      | some y =>
        obtain ⟨r, hr, rfl, hf, rfl⟩ := frame_row e
        dsimp only
        cases ec : clo rs rk ys r.name ys.length with
        | some k =>
          have hkl := clo_lt ec
          have hy := clo_is ec
          refine ⟨?_, [], rfl⟩
          intro i hi
          have : i = 0 := by have : i < 1 := hi; omega
          subst this
          show Gz rs (ys.take (k + 1) ++ []) r.host
          rw [List.append_nil, List.take_add_one, gd_get hkl, hy]
          exact gz_host B hr hf
        | none =>
          obtain ⟨h1, ps, h2⟩ := hrec r.name e
          refine ⟨?_, _, rfl⟩
          refine sq_app h1 ?_
          rw [h2, ← List.append_assoc]
          exact gz_host B hr hf
    cases n with
    | zero => exact go _ fun y e => absurd (fa x y e) (by omega)
    | succ m => exact go _ fun y e => sq_want B f fa hk m y (let ⟨r, h1, h2, _⟩ := frame_row e; ⟨r, h1, h2⟩) (by have := fa x y e; omega)
theorem bar_not : ∀ (put there : List Str), bar rs there put = false → ∀ i, i < put.length → ∀ w ∈ near rs (there ++ put.take i), w ∉ barsOf rs (gd put i)
  | [], _, _, i, hi => by cases hi
  | x :: xs, there, h, i, hi => by
    rw [bar, Bool.or_eq_false_iff] at h
    cases i with
    | zero =>
      intro w hw hb
      rw [List.take_zero, List.append_nil] at hw
      have := List.any_eq_false.mp h.1 w hw
      exact this (decide_eq_true hb)
    | succ i =>
      have := bar_not xs (there ++ [x]) h.2 i (by rw [List.length_cons] at hi; omega)
      rw [List.append_assoc] at this
      exact this
theorem may_of {there put : List Str} (sq : Sq rs there put) (hb : bar rs there put = false) (hm : ∀ z ∈ put, ∃ r ∈ rs, r.name = z) (hl : there.length + put.length ≤ 20) {i : Nat} (hi : i < put.length) : mayF rs (there ++ put.take i) (gd put i) = true := by
  obtain ⟨r, er, mr, nr⟩ := row_ex (hm _ (gd_mem hi))
  have g := sq i hi
  have hbn := bar_not put there hb i hi
  have e1 : shutsOf rs (gd put i) = r.shuts := by unfold shutsOf; rw [er]
  have e2 : barsOf rs (gd put i) = r.bars := by unfold barsOf; rw [er]
  unfold mayF
  rw [er]
  dsimp only
  rw [g.f, g.h, decide_eq_true (by rw [List.length_append, List.length_take]; omega)]
  have : clearF rs (there ++ put.take i) r = true := by
    unfold clearF
    rw [List.all_eq_true]
    intro w hw
    have a := g.s w hw
    have b := hbn w hw
    rw [e1] at a
    rw [e2] at b
    simp [a, b]
  rw [this]; rfl
theorem host_gt (f : Rise rs rk) : ∀ (n : Nat) (x : Str), 12 - rk x ≤ n → ∀ z ∈ hostsOf rs x, rk x < rk z
  | n, x, hn, z, hz => by
    cases e : hostOf rs (some x) with
    | none => rw [hosts_none e] at hz; cases hz
    | some h =>
      obtain ⟨f1, f2⟩ := f _ _ e
      rw [hosts_some f e] at hz
      rcases List.mem_cons.mp hz with rfl | hz
      · exact f1
      · cases n with
        | zero => omega
        | succ n => have := host_gt f n h (by omega) z hz; omega
theorem hosts_nd (f : Rise rs rk) : ∀ (n : Nat) (x : Str), 12 - rk x ≤ n → (hostsOf rs x).Nodup
  | n, x, hn => by
    cases e : hostOf rs (some x) with
    | none => rw [hosts_none e]; simp
    | some h =>
      obtain ⟨f1, f2⟩ := f _ _ e
      rw [hosts_some f e, List.nodup_cons]
      cases n with
      | zero => omega
      | succ n => exact ⟨fun hm => by have := host_gt f n h (by omega) h hm; omega, hosts_nd f n h (by omega)⟩
theorem hosts_frame (B : Boo rs) : ∀ (m : Nat) (x z : Str), z ∈ downs rs m (some x) → ∃ y, frameOf rs (some z) = some y ∧ (y = x ∨ y ∈ downs rs m (some x))
  | 0, _, _, h => by cases h
  | m + 1, x, z, h => by
    rw [downs] at h ⊢
    cases e : hostOf rs (some x) with
    | none => rw [e] at h; cases h
    | some w =>
      rw [e] at h
      dsimp only at h ⊢
      obtain ⟨r, hr, _, rfl, hf, rfl⟩ := host_row e
      rcases List.mem_cons.mp h with rfl | h
      · exact ⟨r.name, frame_eq B hr hf, .inl rfl⟩
      · obtain ⟨y, ey, hy⟩ := hosts_frame B m _ z h
        exact ⟨y, ey, .inr (by rcases hy with rfl | hy; (exact List.mem_cons_self ..); (exact List.mem_cons_of_mem _ hy))⟩
theorem want_nd (B : Boo rs) (f : Rise rs rk) (fa : Falls rs rk) {ys : List Str} : ∀ (n : Nat) (x : Str), (∃ r ∈ rs, r.name = x) → rk x ≤ n → (wantF rs rk ys n x).2.Nodup ∧ ∀ z ∈ (wantF rs rk ys n x).2, rk z ≤ rk x ∨ (z ∈ hostsOf rs (lastOf ys) ∧ x ∉ hostsOf rs (lastOf ys))
  | n, x, hx, hn => by
    have go : ∀ rec : Str → Nat × List Str, (∀ y, frameOf rs (some x) = some y → (rec y).2.Nodup ∧ ∀ z ∈ (rec y).2, rk z ≤ rk y ∨ (z ∈ hostsOf rs (lastOf ys) ∧ y ∉ hostsOf rs (lastOf ys))) →
        (wstep rs rk ys rec x).2.Nodup ∧ ∀ z ∈ (wstep rs rk ys rec x).2, rk z ≤ rk x ∨ (z ∈ hostsOf rs (lastOf ys) ∧ x ∉ hostsOf rs (lastOf ys)) := by
      intro rec hrec
      unfold wstep
      cases e : frameOf rs (some x) with
      | none =>
        have xn : x ∉ hostsOf rs (lastOf ys) := fun h => by
          obtain ⟨y, ey, _⟩ := hosts_frame B 12 _ x h
          rw [e] at ey; cases ey
        unfold guestF
        dsimp only
        split
        · exact ⟨by simp, fun z hz => .inl (by rw [List.mem_singleton.mp hz]; exact Nat.le_refl _)⟩
        · refine ⟨?_, fun z hz => ?_⟩
          · rw [List.nodup_append]
            refine ⟨hosts_nd f 12 _ (by omega), by simp, fun a ha b hb e => ?_⟩
            rw [List.mem_singleton.mp hb] at e
            exact xn (e ▸ ha)
          · rcases List.mem_append.mp hz with h | h
            · exact .inr ⟨h, xn⟩
            · exact .inl (by rw [List.mem_singleton.mp h]; exact Nat.le_refl _)
      | some y =>
        have hyx := fa x y e
        dsimp only
        cases ec : clo rs rk ys y ys.length with
        | some k => exact ⟨by simp, fun z hz => .inl (by rw [List.mem_singleton.mp hz]; exact Nat.le_refl _)⟩
        | none =>
          obtain ⟨h1, h2⟩ := hrec y e
          have key : ∀ z ∈ (rec y).2, z ≠ x ∧ (rk z ≤ rk x ∨ (z ∈ hostsOf rs (lastOf ys) ∧ x ∉ hostsOf rs (lastOf ys))) := fun z hz => by
            rcases h2 z hz with h | ⟨ha, hb⟩
            · exact ⟨fun z' => by rw [z'] at h; omega, .inl (by omega)⟩
            · have xn : x ∉ hostsOf rs (lastOf ys) := fun h => by
                obtain ⟨y', ey, hy⟩ := hosts_frame B 12 _ x h
                rw [e] at ey
                injection ey with ey
                subst ey
                rcases hy with hy | hy
                · have hne : ys ≠ [] := fun z => by
                    rw [z] at ha
                    rw [show hostsOf rs (lastOf []) = [] from hosts_none (hostOf_empty B)] at ha; cases ha
                  have hpos := List.length_pos_iff.mpr hne
                  obtain ⟨m, hm⟩ : ∃ m, ys.length = m + 1 := ⟨ys.length - 1, by omega⟩
                  rw [hm, clo, if_pos (by rw [hy]; unfold lastOf; rw [hm]; rfl)] at ec
                  cases ec
                · exact hb hy
              exact ⟨fun z' => xn (z' ▸ ha), .inr ⟨ha, xn⟩⟩
          refine ⟨?_, fun z hz => ?_⟩
          · rw [List.nodup_append]
            refine ⟨h1, by simp, fun a ha b hb e => ?_⟩
            rw [List.mem_singleton.mp hb] at e
            exact (key a ha).1 e
          · rcases List.mem_append.mp hz with h | h
            · exact (key z h).2
            · exact .inl (by rw [List.mem_singleton.mp h]; exact Nat.le_refl _)
    cases n with
    | zero => exact go _ fun y e => absurd (fa x y e) (by omega)
    | succ m => exact go _ fun y e => want_nd B f fa m y (let ⟨r, h1, h2, _⟩ := frame_row e; ⟨r, h1, h2⟩) (by have := fa x y e; omega)
end
end My

namespace My
open PySem L2
variable {K : PySem.W.Frag} {vs : List V} {H : Hp} {Q : VK} {E : XK}
theorem depth_rows : ∀ rs : List Row, PyData.depthAll (rs.map Row.da) ≤ 2
  | [] => by show PyData.depthAll [] ≤ 2; rw [PyData.depthAll]; omega
  | r :: rs => by
    show PyData.depthAll (r.da :: rs.map Row.da) ≤ 2
    have := depth_rows rs
    rw [PyData.depthAll]
    have : PyData.depth r.da ≤ 2 := by
      unfold Row.da
      simp [PyData.depth, PyData.depthAll, depth_strs]
    omega

theorem eqv_strsT (xs : List Str) : PyData.eqv (.tuple (sDa xs)) (.tuple []) = decide (xs = []) := by
  rw [PyData.eqv]
  cases xs with
  | nil => show PyData.eqvAll [] [] = _; rw [PyData.eqvAll]; rfl
  | cons j js => show PyData.eqvAll (.str j :: sDa js) [] = _; rw [PyData.eqvAll]; simp
theorem eqv_rows (xs : List Row) : PyData.eqv (.list (xs.map Row.da)) (.list []) = decide (xs = []) := by
  rw [PyData.eqv]
  cases xs with
  | nil => show PyData.eqvAll [] [] = _; rw [PyData.eqvAll]; rfl
  | cons j js => show PyData.eqvAll (j.da :: js.map Row.da) [] = _; rw [PyData.eqvAll]; simp
def sp__law_right (K : PySem.W.Frag) : Sp := fun vs H Q _ => ∃ (t p b fd q : Addr) (ys put : List Str) (rs : List Row) (r : Row) (k : Nat), vs = [.ref t, .ref p, .ref b, .ref fd] ∧ Rws K H (.ref t) rs ∧ Boo rs ∧ SqT K H p (strV ys) ∧ ys.length ≤ 50 ∧ Dv K H r.da (.ref b) ∧ SqT K H fd [.str ("open" : Str), .int k, .ref q] ∧ SqT K H q (strV put) ∧ (∃ ps, put = ps ++ [r.name]) ∧ k ≤ ys.length ∧ put.length ≤ 100 ∧ (∀ y ∈ ys, ∃ r ∈ rs, r.name = y) ∧ (∀ z ∈ put, ∃ r ∈ rs, r.name = z) ∧ (∀ i, i < put.length → mayF rs (ys.take k ++ put.take i) (gd put i) = true) ∧ (k < ys.length → frameOf rs (some r.name) = none → ys.length - k ≤ (near rs ys).length ∧ gd ys k ∈ r.shuts) ∧ ∀ H', Same H H' → Q (.bl true) H'
theorem len__law_right (K : PySem.W.Frag) : ∀ vs H Q E, sp__law_right K vs H Q E → vs.length = ["_law_book_here", "_law_names_here", "_law_row_here", "_law_found"].length := by rintro vs H Q E ⟨t, p, b, fd, q, ys, put, rs, r, k, rfl, _⟩; rfl
def R__law_right (K : PySem.W.Frag) : TS :=
 (tSeq (tAsg (tSl (rSlB K) (tVar 3) (tPart (tC (.int 1))) tNoPart) (gTup K 2 (gCons (gName 4) (gCons (gName 5) gNil))))
 (tSeq (tAsg (tCB (rListA K) (tCons (tSl (rSlB K) (tVar 1) tNoPart (tPart (tVar 4))) tNil)) (gName 6))
 (tSeq (tIfS (tOr (tTest (tOp (rEqA K) (tVar 5) (tTup tNil))) (tOr (tTest (tOp (rNeA K) (tOp (rIxA K) (tVar 5) (tUn (rU fun i => .int (-i)) (tC (.int 1)))) (tOp (rIxA K) (tVar 2) (tC (.int 0))))) (tNot (tTest (tChain rLeA rLeA (tC (.int 0)) (tVar 4) (tCB (rLenA K) (tCons (tVar 1) tNil)))))))
 (tRet (tC (.bl false))) tNext)
 (tSeq (tFor (iAny K (tVar 5)) (gName 7)
 (tSeq (tIfS (tNot (tB (tCall (sp__law_may K) [] E0 (tCons (tVar 0) (tCons (tVar 6) (tCons (tVar 7) tNil))))))
 (tRet (tC (.bl false))) tNext)
 (tDrop (tBM K "list" rAppend (tVar 6) (tCons (tVar 7) tNil)))))
 (tSeq (tIfS (tAnd (tTest (tOp rLtA (tVar 4) (tCB (rLenA K) (tCons (tVar 1) tNil)))) (tTest (tOp (rEqA K) (tCall (sp__law_frame K) [] E0 (tCons (tVar 0) (tCons (tOp (rIxA K) (tVar 2) (tC (.int 0))) tNil))) (tC (.str ("" : Str))))))
 (tSeq (tAsg (tCall (sp__law_near K) [] E0 (tCons (tVar 0) (tCons (tVar 1) tNil))) (gName 8))
 (tRet (tAndV (tOp rLeA (tOp (rI0 fun i j => .int (i - j)) (tCB (rLenA K) (tCons (tVar 1) tNil)) (tVar 4)) (tCB (rLenA K) (tCons (tVar 8) tNil))) (tOp (rInB K false) (tOp (rIxA K) (tVar 1) (tVar 4)) (tOp (rIxA K) (tVar 2) (tC (.int 3))))))) tNext)
 (tRet (tC (.bl true))))))))
theorem rd__law_right (h : sp__law_right K vs H Q E) : R__law_right K { nx := fun _ H' => Q .non H', rt := Q } (start ["_law_book_here", "_law_names_here", "_law_row_here", "_law_found", "_law_kept", "_law_put", "_law_there", "_law_one", "_law_near_here"] vs) H := by
  obtain ⟨t, p, b, fd, q0, ys, put, rs, r, k, rfl, hR, B, hp, hl, hb, hfd, hq0, ⟨ps, hps⟩, hk, hpl, hy, hpm, hmay, hend, q⟩ := h
  show R__law_right K _ [some (.ref t), some (.ref p), some (.ref b), some (.ref fd), none, none, none, none, none] H
  unfold R__law_right
  obtain ⟨b', pS, pB, eb, hrow, hsh, hba⟩ := row_tup hb
  injection eb with eb
  subst eb
  walk_at "step"
  refine v_slT hfd fun p1 H1 s1 hp1 => ?_
  have e1 : cutV [V.str ("open" : Str), V.int (k : Int), V.ref q0] (some 1) none = [V.int (k : Int), V.ref q0] := rfl
  rw [e1] at hp1
  refine ⟨p1, _, rfl, hp1, rfl, _, _, rfl, st_name ⟨_, _, rfl, st_name ⟨rfl, ?_⟩⟩⟩
  walk_at "step"
  refine v_slT (s1.sqT hp) fun p2 H2 s2 hp2 => ?_
  rw [cut_take] at hp2
  walk_at "step"
  refine ⟨p2, _, rfl, .inr hp2, fun d hd => ?_⟩
  have s3 : Same H (upd H2 d (.lst (strV (ys.take k)))) := Same.tr s1 (Same.tr s2 (Same.new hd _))
  have hd0 : H d = none := Same.free s1 (Same.free s2 hd)
  have hd3 : (upd H2 d (.lst (strV (ys.take k)))) d = some (.lst (strV (ys.take k))) := upd_same
  generalize upd H2 d (.lst (strV (ys.take k))) = H3 at *
  walk_at "step"
  refine ⟨sl64 (by simp), fun p4 hp4 => ?_⟩
  have s4 : Same H3 (upd H3 p4 (.tup [])) := Same.new hp4 _
  have pne : put ≠ [] := by rw [hps]; simp
  refine v_eqD (d := .tuple (sDa put)) (e := .tuple []) (dv_tuple.mpr ⟨q0, _, rfl, (Same.tr s3 s4).sqT hq0, dvs_sDa.mpr rfl⟩) (dv_tuple.mpr ⟨p4, [], rfl, SqT.of upd_same, dvs_nil⟩) (by rw [PyData.depth, depth_strs]; decide) ?_
  rw [eqv_strsT, decide_eq_false pne]
  have s5 := Same.tr s3 s4
  have hd5 := s4 _ _ hd3
  generalize upd H3 p4 (.tup []) = H5 at *
  walk_at "step"
  refine ⟨1, rfl, ?_⟩
  have elast : atI (strV put) (-1) = some (.str r.name) := by
    rw [hps, ← strV_app]; exact atI_last _ _
  refine v_ixT (s5.sqT hq0) elast ?_
  walk_at "step"
  refine v_ixT (s5.sqT hrow) rfl ?_
  walk_at "step"
  rw [decide_eq_true rfl, Bool.not_true]
  refine iteF ?_
  walk_at "step"
  rw [decide_eq_true (show (0 : Int) ≤ (k : Int) by omega)]
  refine iteT ?_
  walk_at "step"
  refine v_lenQ (.inr (s5.sqT hp)) ?_
  rw [strV_len]
  walk_at "step"
  rw [decide_eq_true (show (k : Int) ≤ (ys.length : Int) by omega), Bool.not_true]
  refine iteF ?_
  walk_at "step"
  refine any_forS (H0 := H) (.inr hq0) s5 (fun i σ H' => Same H H' ∧ H' d = some (.lst (strV (ys.take k ++ put.take i))) ∧ ∃ w, σ = [some (.ref t), some (.ref p), some (.ref b), some (.ref fd), some (.int k), some (.ref q0), some (.ref d), w, none]) ⟨s5, by rw [List.take_zero, List.append_nil]; exact hd5, _, rfl⟩ (fun i σ H' p => p.1) ?_ ?_
  · rintro i u σ H' hu ⟨s6, hd6, w, rfl⟩
    obtain ⟨z, hz, rfl⟩ := strV_get hu
    have il := (List.getElem?_eq_some_iff.mp hz).1
    have ez : gd put i = z := by have := gd_get il; rw [hz] at this; exact (Option.some.inj this).symm
    have etk : put.take (i + 1) = put.take i ++ [z] := by rw [List.take_add_one, hz]; rfl
    have hm := hmay i il
    rw [ez] at hm
    have tl : (ys.take k ++ put.take i).length ≤ 1000 := by rw [List.length_append, List.length_take, List.length_take]; omega
    walk_at "step"
    refine ⟨.ref t, d, ys.take k ++ put.take i, z, rs, rfl, hR.same s6, B, .inl (SqL.of hd6), tl, fun y hyy => ?_, fun H7 s7 => ?_⟩
    · rcases List.mem_append.mp hyy with h | h
      · exact hy y (List.mem_of_mem_take h)
      · exact hpm y (List.mem_of_mem_take h)
    rw [hm]
    walk_at "step"
    rw [Bool.not_true]
    refine iteF ?_
    walk_at "step"
    refine ⟨.inl ⟨rfl, _, SqL.of (s7 _ _ hd6)⟩, ?_⟩
    walk_at "step"
    refine v_append (s7 _ _ hd6) (by rw [strV_len, sizeLine_eq]; omega) ?_
    rw [strV_app]
    walk_at "step"
    exact ⟨Same.put (Same.tr s6 s7) hd0 _, by rw [etk, ← List.append_assoc]; exact upd_same, _, rfl⟩
  · rintro σ H' ⟨s6, hd6, w, rfl⟩
    walk_at "step"
    refine v_lenQ (.inr (s6.sqT hp)) ?_
    rw [strV_len]
    walk_at "step"
    by_cases hkl : k < ys.length
    · rw [decide_eq_true (by omega)]
      refine iteT ?_
      walk_at "step"
      refine v_ixT (s6.sqT hrow) rfl ?_
      walk_at "step"
      refine ⟨.ref t, r.name, rs, rfl, hR.same s6, B, ?_⟩
      rw [frS_eq B]
      walk_at "step"
      cases ef : frameOf rs (some r.name) with
      | none =>
        obtain ⟨c1, c2⟩ := hend hkl ef
        rw [decide_eq_true (show (none : Option Str).getD ("" : Str) = ("" : Str) from rfl)]
        refine iteT ?_
        walk_at "step"
        refine ⟨.ref t, p, ys, rs, rfl, hR.same s6, .inr (s6.sqT hp), by omega, fun p7 H7 s7 hp7 hp7' => ?_⟩
        have s67 := Same.tr s6 s7
        walk_at "step"
        refine v_lenQ (.inr (s67.sqT hp)) ?_
        rw [strV_len]
        walk_at "step"
        refine v_lenQ (.inl (SqL.of hp7')) ?_
        rw [strV_len]
        walk_at "step"
        rw [decide_eq_true (show (ys.length : Int) - (k : Int) ≤ ((near rs ys).length : Int) by omega)]
        refine iteT ?_
        walk_at "step"
        refine v_ixT (s67.sqT hp) (at_str hkl) ?_
        walk_at "step"
        refine v_ixT (s67.sqT hrow) rfl ?_
        refine .inl (v_in (.inr (s67.sqT hsh)) rfl (flat_strV _) ?_)
        rw [inV_strV, decide_eq_true c2]
        exact q _ s67
      | some y =>
        obtain ⟨ry, my, ny, _⟩ := frame_row ef
        rw [decide_eq_false (show ¬ (some y : Option Str).getD ("" : Str) = ("" : Str) by show ¬ y = _; rw [← ny]; exact B.ne ry my)]
        refine iteF ?_
        walk_at "step"
        exact q _ s6
    · rw [decide_eq_false (by omega)]
      refine iteF ?_
      refine iteF ?_
      walk_at "step"
      exact q _ s6

theorem bar_some {rs : List Row} : ∀ (put there : List Str), bar rs there put = true → ∃ z w, z ∈ put ∧ w ∈ barsOf rs z
  | [], _, h => by cases h
  | x :: xs, there, h => by
    rw [bar, Bool.or_eq_true] at h
    rcases h with h | h
    · obtain ⟨y, _, hy⟩ := List.any_eq_true.mp h
      exact ⟨x, y, by simp, of_decide_eq_true hy⟩
    · obtain ⟨z, w, hz, hw⟩ := bar_some xs _ h
      exact ⟨z, w, by simp [hz], hw⟩
end My

namespace My
open PySem L2
variable {K : PySem.W.Frag} {vs : List V} {H : Hp} {Q : VK} {E : XK}
def k32bar (K : PySem.W.Frag) : TS :=
 (tIfS (tAnd (tTest (tOp (rEqA K) (tVar 4) (tTup (tCons (tC (.str ("drop" : Str))) (tCons (tC (.str ("barred" : Str))) tNil))))) (tTest (tOp (rEqA K) (tComp [none] (iAny K (tVar 1)) (gName 0) (tTest (tOp (rNeA K) (tOp (rIxA K) (tVar 0) (tC (.int 4))) (tTup tNil))) (tVar 0)) (tLst tNil))))
 (tRet (tC (.bl false))) tNext)
def k32deep (K : PySem.W.Frag) : TS :=
 (tSeq (tIfS (tAnd (tTest (tOp (rEqA K) (tOp (rIxA K) (tVar 4) (tC (.int 0))) (tC (.str ("drop" : Str))))) (tAnd (tTest (tOp (rEqA K) (tOp (rIxA K) (tVar 4) (tC (.int 1))) (tC (.str ("deep" : Str))))) (tTest (tOp rLeA (tOp (rAddB K) (tCB (rLenA K) (tCons (tVar 2) tNil)) (tCB (rLenA K) (tCons (tVar 1) tNil))) (tC (.int 20))))))
 (tRet (tC (.bl false))) tNext)
 (k32bar K))

section
variable {D : Ends} {sc t p pf : Addr} {us : List V} {ys : List Str} {rs : List Row} {row : Option V}
/-- the last question: barred, and no row has bars -/
theorem k32_bar {dat : PyData} (ht : SqT K H t us) (dv : Dvs K H (rs.map Row.da) us) (hrl : rs.length ≤ 12) (hd : Dv K H dat (.ref pf)) (hdp : dat.depth ≤ 60)
    (hb : PyData.eqv dat (.tuple [.str ("drop" : Str), .str ("barred" : Str)]) = true → ∃ r ∈ rs, r.bars ≠ [])
    (q : ∀ H', Same H H' → D.nx [some (.ref sc), some (.ref t), some (.ref p), row, some (.ref pf)] H') :
    k32bar K D [some (.ref sc), some (.ref t), some (.ref p), row, some (.ref pf)] H := by
  unfold k32bar
  have ul : us.length = rs.length := by have := dv.length; simpa using this
  walk_at "step"
  refine ⟨sl64 (by simp), fun p1 h1 => ?_⟩
  have s1 : Same H (upd H p1 (.tup [.str ("drop" : Str), .str ("barred" : Str)])) := Same.new h1 _
  refine v_eqD (Dv.same s1 _ _ hd) (dv_tuple.mpr ⟨p1, _, rfl, SqT.of upd_same, dvs_cons (dv_str.mpr rfl) (dvs_cons (dv_str.mpr rfl) dvs_nil)⟩) (by omega) ?_
  generalize upd H p1 (.tup [.str ("drop" : Str), .str ("barred" : Str)]) = H1 at *
  walk_at "step"
  cases he : PyData.eqv dat (.tuple [.str ("drop" : Str), .str ("barred" : Str)]) with
  | false =>
    refine iteF ?_
    refine iteF ?_
    walk_at "step"
    exact q _ s1
  | true =>
    obtain ⟨rb, mb, nb⟩ := hb he
    obtain ⟨jb, hjb, ejb⟩ := List.getElem_of_mem mb
    refine iteT ?_
    walk_at "step"
    refine any_compS (H0 := H) (.inr ht) s1 (fun i zs H' => Same H H' ∧ ∃ sel : List Row, Dvs K H' (sel.map Row.da) zs ∧ sel.length ≤ i ∧ (jb < i → sel ≠ [])) ⟨s1, [], dvs_nil, Nat.le_refl _, fun h => by omega⟩ ?_ (fun i zs H' h => h.1) ?_ ?_
    · rintro i zs H' hi ⟨_, sel, dvz, hsl, _⟩
      have := dvz.length
      rw [List.length_map] at this
      exact sl64 (by omega)
    · rintro i x zs H' hx ⟨s2, sel, dvz, hsl, hsn⟩
      obtain ⟨dd, e1, dvx⟩ := (Dvs.same s2 _ _ dv).get' hx
      rw [List.getElem?_map] at e1
      obtain ⟨r, hr, rfl⟩ := Option.map_eq_some_iff.mp e1
      obtain ⟨b, ps, pb, rfl, hrow, _, hba⟩ := row_tup dvx
      walk_at "step"
      refine v_ixT hrow rfl ?_
      walk_at "step"
      refine ⟨sl64 (by simp), fun p3 h3 => ?_⟩
      have s3 := Same.new h3 (.tup [])
      refine v_neD (d := .tuple (sDa r.bars)) (e := .tuple []) (dv_tuple.mpr ⟨pb, _, rfl, s3.sqT hba, dvs_sDa.mpr rfl⟩) (dv_tuple.mpr ⟨p3, [], rfl, SqT.of upd_same, dvs_nil⟩) (by rw [PyData.depth, depth_strs]; decide) ?_
      rw [eqv_strsT]
      walk_at "step"
      have dvz3 := Dvs.same s3 _ _ dvz
      by_cases hbr : r.bars = []
      · rw [decide_eq_true hbr, Bool.not_true]
        refine iteF ?_
        refine ⟨Same.tr s2 s3, sel, dvz3, by omega, fun h => hsn ?_⟩
        by_cases e : jb = i
        · subst e
          rw [List.getElem?_eq_getElem hjb, ejb] at hr
          exact absurd (by rw [Option.some.inj hr]; exact hbr) nb
        · omega
      · rw [decide_eq_false hbr, Bool.not_false]
        refine iteT ?_
        walk_at "step"
        exact ⟨Same.tr s2 s3, sel ++ [r], by rw [List.map_append]; exact Dvs.append dvz3 (dvs_cons (Dv.same s3 _ _ dvx) dvs_nil), by rw [List.length_append, List.length_singleton]; omega, fun _ => by simp⟩
    · rintro zs H' ⟨s2, sel, dvz, hsl, hsn⟩ p4 h4
      have hne : sel ≠ [] := hsn (by omega)
      walk_at "step"
      refine ⟨sl64 (by simp), fun p5 h5 => ?_⟩
      have s4 := Same.new h4 (.lst zs)
      have s5 := Same.new h5 (.lst [])
      refine v_eqD (d := .list (sel.map Row.da)) (e := .list []) (dv_list.mpr ⟨p4, _, rfl, SqL.of (s5 _ _ upd_same), Dvs.same (Same.tr s4 s5) _ _ dvz⟩) (dv_list.mpr ⟨p5, [], rfl, SqL.of upd_same, dvs_nil⟩) (by rw [PyData.depth]; have := depth_rows sel; omega) ?_
      rw [eqv_rows, decide_eq_false hne]
      walk_at "step"
      exact q _ (Same.tr s2 (Same.tr s4 s5))
end
def sp_law (K : PySem.W.Frag) : Sp := fun vs H Q _ => ∃ (a : Addr) (ns : List Int), vs = [.ref a] ∧ SqL K H a (ns.map V.int) ∧ ns.length ≤ 63 ∧ ∀ H', Q (.bl true) H'
theorem len_law (K : PySem.W.Frag) : ∀ vs H Q E, sp_law K vs H Q E → vs.length = ["_law_script"].length := by rintro vs H Q E ⟨a, b, rfl, _⟩; rfl
def R_law (K : PySem.W.Frag) : TS :=
 (tSeq (tAsg (tCall (sp__law_book K) [] E0 (tCons (tVar 0) tNil)) (gName 1))
 (tSeq (tAsg (tCall (sp__law_stack K) [] E0 (tCons (tVar 0) (tCons (tC (.int 15)) (tCons (tVar 1) tNil)))) (gName 2))
 (tSeq (tFor (iAny K (tVar 1)) (gName 3)
 (tSeq (tAsg (tCall (sp_opening K) [] E0 (tCons (tVar 1) (tCons (tVar 2) (tCons (tOp (rIxA K) (tVar 3) (tC (.int 0))) tNil)))) (gName 4))
 (tSeq (tIfS (tOr (tNot (tB (tCB (rIsi K) (tCons (tVar 4) (tCons (tC (.ty "tuple")) tNil))))) (tTest (tOp (rInB K true) (tOp (rIxA K) (tVar 4) (tC (.int 0))) (tTup (tCons (tC (.str ("open" : Str))) (tCons (tC (.str ("drop" : Str))) tNil))))))
 (tRet (tC (.bl false))) tNext)
 (tSeq (tIfS (tAnd (tTest (tOp (rEqA K) (tOp (rIxA K) (tVar 4) (tC (.int 0))) (tC (.str ("open" : Str))))) (tNot (tB (tCall (sp__law_right K) [] E0 (tCons (tVar 1) (tCons (tVar 2) (tCons (tVar 3) (tCons (tVar 4) tNil))))))))
 (tRet (tC (.bl false))) tNext)
 (k32deep K)))))
 (tRet (tC (.bl true))))))
theorem rd_law (h : sp_law K vs H Q E) : R_law K { nx := fun _ H' => Q .non H', rt := Q } (start ["_law_script", "_law_book_here", "_law_names_here", "_law_row_here", "_law_found"] vs) H := by
  obtain ⟨sc, ns, rfl, hS, hn, q⟩ := h
  show R_law K _ [some (.ref sc), none, none, none, none] H
  unfold R_law
  walk_at "step"
  refine ⟨sc, ns, rfl, hS, fun t us rs H1 s1 ht dv B => ?_⟩
  walk_at "step"
  refine ⟨sc, t, ns, 15, us, rs, rfl, s1.sqL hS, hn, SqT.of ht, dv, B, fun p ys H2 s2 hp hk => ?_⟩
  have hR : Rws K H2 (.ref t) rs := ⟨t, us, rfl, .inr (SqT.of (s2 _ _ ht)), Dvs.same s2 _ _ dv⟩
  have ul : us.length = rs.length := by have := dv.length; simpa using this
  have yl := hk.l
  have rl := B.l2
  obtain ⟨rk, fa, f, hrk⟩ : ∃ rk, Falls rs rk ∧ Rise rs rk ∧ ∀ r ∈ rs, rk (Row.name r) < 12 := by
    obtain ⟨rk, h1, h2⟩ := B.rk
    refine ⟨rk, fun x y e => ?_, fun x y e => ?_, h1⟩
    · obtain ⟨r, hm, en, hf, hh⟩ := frame_row e
      have := (h2 r hm hf).2
      rw [en, hh] at this
      exact this
    · obtain ⟨r, hr, _, rfl, hf, rfl⟩ := host_row e
      obtain ⟨⟨r', hr', en, _⟩, h⟩ := h2 r hr hf
      exact ⟨h, by rw [← en]; exact h1 r' hr'⟩
  walk_at "step"
  refine any_forS (H0 := H2) (.inr (SqT.of (s2 _ _ ht))) (Same.refl _) (fun i σ H' => Same H2 H' ∧ ∃ (a3 a4 : Option V), σ = [some (.ref sc), some (.ref t), some (.ref p), a3, a4]) ⟨Same.refl _, none, none, rfl⟩ (fun i σ H' h => h.1) ?_ ?_
  · rintro i v σ H' hv ⟨s3, a3, a4, rfl⟩
    obtain ⟨dd, e1, dvx⟩ := (Dvs.same (Same.tr s2 s3) _ _ dv).get' hv
    rw [List.getElem?_map] at e1
    obtain ⟨r, hr, rfl⟩ := Option.map_eq_some_iff.mp e1
    have hrm : r ∈ rs := List.mem_of_getElem? hr
    obtain ⟨b, ps, pb, rfl, hb, _, _⟩ := row_tup dvx
    have hk12 := hrk r hrm
    have wk := want_ok B fa (ys := ys) 13 r.name ⟨r, hrm, rfl⟩ (by omega)
    obtain ⟨sq, hlast⟩ := sq_want B f fa hk 13 r.name ⟨r, hrm, rfl⟩ (by omega)
    obtain ⟨wnd, _⟩ := want_nd B f fa (ys := ys) 13 r.name ⟨r, hrm, rfl⟩ (by omega)
    have hend : (wantF rs rk ys 13 r.name).1 < ys.length → frameOf rs (some r.name) = none → ys.length - (wantF rs rk ys 13 r.name).1 ≤ (near rs ys).length ∧ gd ys (wantF rs rk ys 13 r.name).1 ∈ r.shuts := fun hlt hf => by
      have ew : wantF rs rk ys 13 r.name = guestF rs ys r.name := by
        show wstep rs rk ys _ r.name = _
        unfold wstep; rw [hf]
      rw [ew] at hlt ⊢
      unfold guestF at hlt ⊢
      by_cases h0 : hostsOf rs (lastOf ys) = []
      · rw [if_pos h0] at hlt ⊢
        have hlt : keptF rs ys r.name < ys.length := hlt
        show ys.length - keptF rs ys r.name ≤ _ ∧ gd ys (keptF rs ys r.name) ∈ _
        have nl := near_len rs ys.length ys rfl
        have kg : ys.length - (near rs ys).length ≤ keptF rs ys r.name := kpt_ge _ _ _ _
        have hsh : shutsOf rs r.name = r.shuts := by unfold shutsOf; rw [rowOf_mem B.nd hrm]
        have hm := kpt_mem ys (shutsOf rs r.name) (near rs ys).length (ys.length - (near rs ys).length) (by unfold keptF at hlt; omega)
        rw [← hsh]
        exact ⟨by omega, hm⟩
      · rw [if_neg h0] at hlt
        exact absurd hlt (Nat.lt_irrefl _)
    walk_at "step"
    refine v_ixT hb rfl ?_
    walk_at "step"
    refine ⟨.ref t, p, ys, r.name, rs, rk, rfl, hR.same s3, B, fa, s3.sqT hp, by omega, ⟨r, hrm, rfl⟩, by omega, fun p5 H5 s5 dv5 => ?_⟩
    have s35 : Same H2 H5 := Same.tr s3 s5
    have ht5 : SqT K H5 t us := (Same.tr s2 s35).sqT (SqT.of ht)
    have dvr5 : Dvs K H5 (rs.map Row.da) us := Dvs.same (Same.tr s2 s35) _ _ dv
    unfold planF at dv5
    have wkk := wk.k
    have wkl := wk.l
    have wkm := wk.m
    have sqm : bar rs (ys.take (wantF rs rk ys 13 r.name).1) (wantF rs rk ys 13 r.name).2 = false → ¬ 20 < (wantF rs rk ys 13 r.name).1 + (wantF rs rk ys 13 r.name).2.length → ∀ i, i < (wantF rs rk ys 13 r.name).2.length → mayF rs (ys.take (wantF rs rk ys 13 r.name).1 ++ (wantF rs rk ys 13 r.name).2.take i) (gd (wantF rs rk ys 13 r.name).2 i) = true := fun h1 h2 i hi => may_of sq h1 wkm (by rw [List.length_take]; omega) hi
    generalize wantF rs rk ys 13 r.name = W at *
    walk_at "step"
    cases hbar : bar rs (ys.take W.1) W.2 with
    | true =>
      rw [if_pos hbar] at dv5
      have dvc := dv5
      obtain ⟨c, vs5, e5, sq5, d5⟩ := dv_tuple.mp dv5
      injection e5 with e5
      subst e5
      rw [Dvs] at d5; obtain ⟨v1, r1, rfl, w1, d5⟩ := d5
      rw [Dvs] at d5; obtain ⟨v2, r2, rfl, w2, d5⟩ := d5
      rw [dv_str.mp w1, dv_str.mp w2] at sq5
      refine v_isiT sq5 (b := true) rfl ?_
      walk_at "step"
      rw [Bool.not_true]
      refine iteF ?_
      walk_at "step"
      refine v_ixT sq5 (atI_nat (j := 0) rfl) ?_
      walk_at "step"
      refine ⟨sl64 (by simp), fun p6 h6 => ?_⟩
      have s6 := Same.new h6 (.tup [.str ("open" : Str), .str ("drop" : Str)])
      refine .inl (v_notin (xs := strV [("open" : Str), ("drop" : Str)]) (.inr (SqT.of upd_same)) rfl (flat_strV _) ?_)
      rw [inV_strV, decide_eq_true (show ("drop" : Str) ∈ [("open" : Str), ("drop" : Str)] by simp)]
      walk_at "step"
      rw [Bool.not_true]
      refine iteF ?_
      walk_at "step"
      refine v_ixT (s6.sqT sq5) (atI_nat (j := 0) rfl) ?_
      walk_at "step"
      rw [decide_eq_false (show ¬ ("drop" : Str) = ("open" : Str) by decide)]
      refine iteF ?_
      refine iteF ?_
      walk_at "step"
      unfold k32deep
      walk_at "step"
      refine v_ixT (s6.sqT sq5) (atI_nat (j := 0) rfl) ?_
      walk_at "step"
      rw [decide_eq_true rfl]
      refine iteT ?_
      walk_at "step"
      refine v_ixT (s6.sqT sq5) (atI_nat (j := 1) rfl) ?_
      walk_at "step"
      rw [decide_eq_false (show ¬ ("barred" : Str) = ("deep" : Str) by decide)]
      refine iteF ?_
      refine iteF ?_
      walk_at "step"
      refine k32_bar (s6.sqT ht5) (Dvs.same s6 _ _ dvr5) rl (Dv.same s6 _ _ dvc) (by simp [PyData.depth, PyData.depthAll]) (fun _ => ?_) fun H7 s7 => ⟨Same.tr s35 (Same.tr s6 s7), _, _, rfl⟩
      obtain ⟨z, w, hz, hw⟩ := bar_some W.2 (ys.take W.1) hbar
      unfold barsOf at hw
      cases er : rowOf rs (some z) with
      | none => rw [er] at hw; cases hw
      | some rz => rw [er] at hw; exact ⟨rz, (row_some er).1, fun e => by dsimp only at hw; rw [e] at hw; cases hw⟩
    | false =>
      rw [if_neg (by rw [hbar]; exact Bool.false_ne_true)] at dv5
      by_cases h20 : 20 < W.1 + W.2.length
      · rw [if_pos h20] at dv5
        have dvc := dv5
        obtain ⟨c, vs5, e5, sq5, d5⟩ := dv_tuple.mp dv5
        injection e5 with e5
        subst e5
        rw [Dvs] at d5; obtain ⟨v1, r1, rfl, w1, d5⟩ := d5
        rw [Dvs] at d5; obtain ⟨v2, r2, rfl, w2, d5⟩ := d5
        rw [dv_str.mp w1, dv_str.mp w2] at sq5
        refine v_isiT sq5 (b := true) rfl ?_
        walk_at "step"
        rw [Bool.not_true]
        refine iteF ?_
        walk_at "step"
        refine v_ixT sq5 (atI_nat (j := 0) rfl) ?_
        walk_at "step"
        refine ⟨sl64 (by simp), fun p6 h6 => ?_⟩
        have s6 := Same.new h6 (.tup [.str ("open" : Str), .str ("drop" : Str)])
        refine .inl (v_notin (xs := strV [("open" : Str), ("drop" : Str)]) (.inr (SqT.of upd_same)) rfl (flat_strV _) ?_)
        rw [inV_strV, decide_eq_true (show ("drop" : Str) ∈ [("open" : Str), ("drop" : Str)] by simp)]
        walk_at "step"
        rw [Bool.not_true]
        refine iteF ?_
        walk_at "step"
        refine v_ixT (s6.sqT sq5) (atI_nat (j := 0) rfl) ?_
        walk_at "step"
        rw [decide_eq_false (show ¬ ("drop" : Str) = ("open" : Str) by decide)]
        refine iteF ?_
        refine iteF ?_
        walk_at "step"
        unfold k32deep
        walk_at "step"
        refine v_ixT (s6.sqT sq5) (atI_nat (j := 0) rfl) ?_
        walk_at "step"
        rw [decide_eq_true rfl]
        refine iteT ?_
        walk_at "step"
        refine v_ixT (s6.sqT sq5) (atI_nat (j := 1) rfl) ?_
        walk_at "step"
        rw [decide_eq_true rfl]
        refine iteT ?_
        walk_at "step"
        refine v_lenQ (.inr ((Same.tr s35 s6).sqT hp)) ?_
        rw [strV_len]
        walk_at "step"
        refine v_lenQ (.inr (s6.sqT ht5)) ?_
        refine .inl (v_addI ?_)
        walk_at "step"
        have hsub : W.2.length ≤ rs.length := by
          have := sub_len (m := rs.map (·.name)) wnd (fun z hz => by obtain ⟨r', hr', e⟩ := wkm z hz; exact List.mem_map.mpr ⟨r', hr', e⟩)
          rwa [List.length_map] at this
        rw [decide_eq_false (by omega)]
        refine iteF ?_
        walk_at "step"
        exact k32_bar (s6.sqT ht5) (Dvs.same s6 _ _ dvr5) rl (Dv.same s6 _ _ dvc) (by simp [PyData.depth, PyData.depthAll]) (fun h => absurd h (by simp [PyData.eqv, PyData.eqvAll]; decide)) fun H7 s7 => ⟨Same.tr s35 (Same.tr s6 s7), _, _, rfl⟩
      · rw [if_neg h20] at dv5
        have dvc := dv5
        obtain ⟨c, vs5, e5, sq5, d5⟩ := dv_tuple.mp dv5
        injection e5 with e5
        subst e5
        rw [Dvs] at d5; obtain ⟨v1, r1, rfl, w1, d5⟩ := d5
        rw [Dvs] at d5; obtain ⟨v2, r2, rfl, w2, d5⟩ := d5
        rw [Dvs] at d5; obtain ⟨v3, r3, rfl, w3, d5⟩ := d5
        rw [Dvs] at d5; subst d5
        obtain ⟨c3, vs3, rfl, sq3, d3⟩ := dv_tuple.mp w3
        rw [dvs_sDa.mp d3] at sq3
        rw [dv_str.mp w1, dv_int.mp w2] at sq5
        refine v_isiT sq5 (b := true) rfl ?_
        walk_at "step"
        rw [Bool.not_true]
        refine iteF ?_
        walk_at "step"
        refine v_ixT sq5 (atI_nat (j := 0) rfl) ?_
        walk_at "step"
        refine ⟨sl64 (by simp), fun p6 h6 => ?_⟩
        have s6 := Same.new h6 (.tup [.str ("open" : Str), .str ("drop" : Str)])
        refine .inl (v_notin (xs := strV [("open" : Str), ("drop" : Str)]) (.inr (SqT.of upd_same)) rfl (flat_strV _) ?_)
        rw [inV_strV, decide_eq_true (show ("open" : Str) ∈ [("open" : Str), ("drop" : Str)] by simp)]
        walk_at "step"
        rw [Bool.not_true]
        refine iteF ?_
        walk_at "step"
        refine v_ixT (s6.sqT sq5) (atI_nat (j := 0) rfl) ?_
        walk_at "step"
        rw [decide_eq_true rfl]
        refine iteT ?_
        walk_at "step"
        refine ⟨t, p, b, p5, c3, ys, W.2, rs, r, W.1, rfl, hR.same (Same.tr s35 s6), B, (Same.tr s35 s6).sqT hp, by omega, Dv.same (Same.tr s5 s6) _ _ dvx, s6.sqT sq5, s6.sqT sq3, hlast, wkk, by omega, hk.m, wkm, sqm hbar h20, hend, fun H7 s7 => ?_⟩
        walk_at "step"
        rw [Bool.not_true]
        refine iteF ?_
        walk_at "step"
        have s67 := Same.tr s6 s7
        unfold k32deep
        walk_at "step"
        refine v_ixT (s67.sqT sq5) (atI_nat (j := 0) rfl) ?_
        walk_at "step"
        rw [decide_eq_false (show ¬ ("open" : Str) = ("drop" : Str) by decide)]
        refine iteF ?_
        refine iteF ?_
        walk_at "step"
        exact k32_bar (s67.sqT ht5) (Dvs.same s67 _ _ dvr5) rl (Dv.same s67 _ _ dvc) (by simp [PyData.depth, PyData.depthAll, depth_strs]) (fun h => absurd h (by simp [PyData.eqv, PyData.eqvAll])) fun H8 s8 => ⟨Same.tr s35 (Same.tr s67 s8), _, _, rfl⟩
  · rintro σ H' ⟨s3, a3, a4, rfl⟩
    walk_at "step"
    exact q _

end My

namespace My
open PySem L2 PyProof.Rows
set_option maxHeartbeats 0
def top (i : Nat) : Stmt := PySem.Challenge.pw_tagmend_k32_what_is_opened_may_stand.main.body.getD i (.Pass ⟨0, 0, 0, 0⟩)
abbrev s_row_of : Stmt := top 7
abbrev s_sort_of : Stmt := top 8
abbrev s_is_wall : Stmt := top 9
abbrev s_host_of : Stmt := top 10
abbrev s_frame_of : Stmt := top 11
abbrev s_belongs : Stmt := top 12
abbrev s_straight_above : Stmt := top 15
abbrev s_near_of : Stmt := top 16
abbrev s_share_a_name : Stmt := top 18
abbrev s_closing : Stmt := top 21
abbrev s_opening : Stmt := top 22
abbrev s_wanted : Stmt := top 23
abbrev s_wanted_by_guest : Stmt := top 24
abbrev s_kept_by_shuts : Stmt := top 25
abbrev s_hosts_within : Stmt := top 26
abbrev s_is_barred : Stmt := top 27
abbrev s__law_cell_at : Stmt := top 29
abbrev s__law_mixed : Stmt := top 30
abbrev s__law_letters : Stmt := top 31
abbrev s__law_names : Stmt := top 32
abbrev s__law_sorts : Stmt := top 33
abbrev s__law_book : Stmt := top 34
abbrev s__law_row : Stmt := top 35
abbrev s__law_frame : Stmt := top 36
abbrev s__law_fence : Stmt := top 37
abbrev s__law_near : Stmt := top 39
abbrev s__law_may : Stmt := top 40
abbrev s__law_stack : Stmt := top 41
abbrev s__law_right : Stmt := top 42
abbrev s_law : Stmt := top 43
structure Adr where
  a_row_of : Addr
  d_row_of : FuncData
  a_sort_of : Addr
  d_sort_of : FuncData
  a_is_wall : Addr
  d_is_wall : FuncData
  a_host_of : Addr
  d_host_of : FuncData
  a_frame_of : Addr
  d_frame_of : FuncData
  a_belongs : Addr
  d_belongs : FuncData
  a_straight_above : Addr
  d_straight_above : FuncData
  a_near_of : Addr
  d_near_of : FuncData
  a_share_a_name : Addr
  d_share_a_name : FuncData
  a_closing : Addr
  d_closing : FuncData
  a_opening : Addr
  d_opening : FuncData
  a_wanted : Addr
  d_wanted : FuncData
  a_wanted_by_guest : Addr
  d_wanted_by_guest : FuncData
  a_kept_by_shuts : Addr
  d_kept_by_shuts : FuncData
  a_hosts_within : Addr
  d_hosts_within : FuncData
  a_is_barred : Addr
  d_is_barred : FuncData
  a__law_cell_at : Addr
  d__law_cell_at : FuncData
  a__law_mixed : Addr
  d__law_mixed : FuncData
  a__law_letters : Addr
  d__law_letters : FuncData
  a__law_names : Addr
  d__law_names : FuncData
  a__law_sorts : Addr
  d__law_sorts : FuncData
  a__law_book : Addr
  d__law_book : FuncData
  a__law_row : Addr
  d__law_row : FuncData
  a__law_frame : Addr
  d__law_frame : FuncData
  a__law_fence : Addr
  d__law_fence : FuncData
  a__law_near : Addr
  d__law_near : FuncData
  a__law_may : Addr
  d__law_may : FuncData
  a__law_stack : Addr
  d__law_stack : FuncData
  a__law_right : Addr
  d__law_right : FuncData
  a_law : Addr
  d_law : FuncData
  c_WALL_SORTS : Addr
  v_NAME : Value
  v_SORT : Value
  v_HOST : Value
  v_SHUTS : Value
  v_BARS : Value
  v_ROOT_NAME : Value
  v_MOST_OPEN : Value
structure Txt (K : PySem.W.Frag) (mg : Str → Option Value) (t : Adr) : Prop where
  F_row_of : Fun K "row_of" "row_of" s_row_of t.a_row_of t.d_row_of
  b_row_of : Binds K t.d_row_of ["rows", "name"] []
  m_row_of : mg "row_of" = some (.ref t.a_row_of)
  F_sort_of : Fun K "sort_of" "sort_of" s_sort_of t.a_sort_of t.d_sort_of
  b_sort_of : Binds K t.d_sort_of ["book", "name"] []
  m_sort_of : mg "sort_of" = some (.ref t.a_sort_of)
  F_is_wall : Fun K "is_wall" "is_wall" s_is_wall t.a_is_wall t.d_is_wall
  b_is_wall : Binds K t.d_is_wall ["book", "name"] []
  m_is_wall : mg "is_wall" = some (.ref t.a_is_wall)
  F_host_of : Fun K "host_of" "host_of" s_host_of t.a_host_of t.d_host_of
  b_host_of : Binds K t.d_host_of ["book", "name"] []
  m_host_of : mg "host_of" = some (.ref t.a_host_of)
  F_frame_of : Fun K "frame_of" "frame_of" s_frame_of t.a_frame_of t.d_frame_of
  b_frame_of : Binds K t.d_frame_of ["book", "name"] []
  m_frame_of : mg "frame_of" = some (.ref t.a_frame_of)
  F_belongs : Fun K "belongs" "belongs" s_belongs t.a_belongs t.d_belongs
  b_belongs : Binds K t.d_belongs ["book", "name", "frame"] []
  m_belongs : mg "belongs" = some (.ref t.a_belongs)
  F_straight_above : Fun K "straight_above" "straight_above" s_straight_above t.a_straight_above t.d_straight_above
  b_straight_above : Binds K t.d_straight_above ["names"] []
  m_straight_above : mg "straight_above" = some (.ref t.a_straight_above)
  F_near_of : Fun K "near_of" "near_of" s_near_of t.a_near_of t.d_near_of
  b_near_of : Binds K t.d_near_of ["book", "names"] []
  m_near_of : mg "near_of" = some (.ref t.a_near_of)
  F_share_a_name : Fun K "share_a_name" "share_a_name" s_share_a_name t.a_share_a_name t.d_share_a_name
  b_share_a_name : Binds K t.d_share_a_name ["names", "others"] []
  m_share_a_name : mg "share_a_name" = some (.ref t.a_share_a_name)
  F_closing : Fun K "closing" "closing" s_closing t.a_closing t.d_closing
  b_closing : Binds K t.d_closing ["book", "names", "name"] []
  m_closing : mg "closing" = some (.ref t.a_closing)
  F_opening : Fun K "opening" "opening" s_opening t.a_opening t.d_opening
  b_opening : Binds K t.d_opening ["book", "names", "name"] []
  m_opening : mg "opening" = some (.ref t.a_opening)
  F_wanted : Fun K "wanted" "wanted" s_wanted t.a_wanted t.d_wanted
  b_wanted : Binds K t.d_wanted ["book", "names", "name"] []
  m_wanted : mg "wanted" = some (.ref t.a_wanted)
  F_wanted_by_guest : Fun K "wanted_by_guest" "wanted_by_guest" s_wanted_by_guest t.a_wanted_by_guest t.d_wanted_by_guest
  b_wanted_by_guest : Binds K t.d_wanted_by_guest ["book", "names", "name"] []
  m_wanted_by_guest : mg "wanted_by_guest" = some (.ref t.a_wanted_by_guest)
  F_kept_by_shuts : Fun K "kept_by_shuts" "kept_by_shuts" s_kept_by_shuts t.a_kept_by_shuts t.d_kept_by_shuts
  b_kept_by_shuts : Binds K t.d_kept_by_shuts ["book", "names", "name"] []
  m_kept_by_shuts : mg "kept_by_shuts" = some (.ref t.a_kept_by_shuts)
  F_hosts_within : Fun K "hosts_within" "hosts_within" s_hosts_within t.a_hosts_within t.d_hosts_within
  b_hosts_within : Binds K t.d_hosts_within ["book", "name"] []
  m_hosts_within : mg "hosts_within" = some (.ref t.a_hosts_within)
  F_is_barred : Fun K "is_barred" "is_barred" s_is_barred t.a_is_barred t.d_is_barred
  b_is_barred : Binds K t.d_is_barred ["book", "kept", "put"] []
  m_is_barred : mg "is_barred" = some (.ref t.a_is_barred)
  F__law_cell_at : Fun K "_law_cell_at" "_law_cell_at" s__law_cell_at t.a__law_cell_at t.d__law_cell_at
  b__law_cell_at : Binds K t.d__law_cell_at ["_law_script", "_law_k"] []
  m__law_cell_at : mg "_law_cell_at" = some (.ref t.a__law_cell_at)
  F__law_mixed : Fun K "_law_mixed" "_law_mixed" s__law_mixed t.a__law_mixed t.d__law_mixed
  b__law_mixed : Binds K t.d__law_mixed ["_law_cell", "_law_k"] []
  m__law_mixed : mg "_law_mixed" = some (.ref t.a__law_mixed)
  F__law_letters : Fun K "_law_letters" "_law_letters" s__law_letters t.a__law_letters t.d__law_letters
  b__law_letters : Binds K t.d__law_letters ["_law_number"] []
  m__law_letters : mg "_law_letters" = some (.ref t.a__law_letters)
  F__law_names : Fun K "_law_names" "_law_names" s__law_names t.a__law_names t.d__law_names
  b__law_names : Binds K t.d__law_names ["_law_cell"] []
  m__law_names : mg "_law_names" = some (.ref t.a__law_names)
  F__law_sorts : Fun K "_law_sorts" "_law_sorts" s__law_sorts t.a__law_sorts t.d__law_sorts
  b__law_sorts : Binds K t.d__law_sorts ["_law_script", "_law_names_here", "_law_count"] []
  m__law_sorts : mg "_law_sorts" = some (.ref t.a__law_sorts)
  F__law_book : Fun K "_law_book" "_law_book" s__law_book t.a__law_book t.d__law_book
  b__law_book : Binds K t.d__law_book ["_law_script"] []
  m__law_book : mg "_law_book" = some (.ref t.a__law_book)
  F__law_row : Fun K "_law_row" "_law_row" s__law_row t.a__law_row t.d__law_row
  b__law_row : Binds K t.d__law_row ["_law_book_here", "_law_name"] []
  m__law_row : mg "_law_row" = some (.ref t.a__law_row)
  F__law_frame : Fun K "_law_frame" "_law_frame" s__law_frame t.a__law_frame t.d__law_frame
  b__law_frame : Binds K t.d__law_frame ["_law_book_here", "_law_name"] []
  m__law_frame : mg "_law_frame" = some (.ref t.a__law_frame)
  F__law_fence : Fun K "_law_fence" "_law_fence" s__law_fence t.a__law_fence t.d__law_fence
  b__law_fence : Binds K t.d__law_fence ["_law_book_here", "_law_name"] []
  m__law_fence : mg "_law_fence" = some (.ref t.a__law_fence)
  F__law_near : Fun K "_law_near" "_law_near" s__law_near t.a__law_near t.d__law_near
  b__law_near : Binds K t.d__law_near ["_law_book_here", "_law_names_here"] []
  m__law_near : mg "_law_near" = some (.ref t.a__law_near)
  F__law_may : Fun K "_law_may" "_law_may" s__law_may t.a__law_may t.d__law_may
  b__law_may : Binds K t.d__law_may ["_law_book_here", "_law_names_here", "_law_name"] []
  m__law_may : mg "_law_may" = some (.ref t.a__law_may)
  F__law_stack : Fun K "_law_stack" "_law_stack" s__law_stack t.a__law_stack t.d__law_stack
  b__law_stack : Binds K t.d__law_stack ["_law_script", "_law_start", "_law_book_here"] []
  m__law_stack : mg "_law_stack" = some (.ref t.a__law_stack)
  F__law_right : Fun K "_law_right" "_law_right" s__law_right t.a__law_right t.d__law_right
  b__law_right : Binds K t.d__law_right ["_law_book_here", "_law_names_here", "_law_row_here", "_law_found"] []
  m__law_right : mg "_law_right" = some (.ref t.a__law_right)
  F_law : Fun K "law" "law" s_law t.a_law t.d_law
  b_law : Binds K t.d_law ["_law_script"] []
  m_law : mg "law" = some (.ref t.a_law)
  g_WALL_SORTS : mg "WALL_SORTS" = some (.ref t.c_WALL_SORTS)
  q_WALL_SORTS : ∀ H : Hp, SqT K H t.c_WALL_SORTS [.str ("room" : Str), .str ("frame" : Str)]
  g_NAME : mg "NAME" = some t.v_NAME ∧ RelV (.int 0) t.v_NAME
  g_SORT : mg "SORT" = some t.v_SORT ∧ RelV (.int 1) t.v_SORT
  g_HOST : mg "HOST" = some t.v_HOST ∧ RelV (.int 2) t.v_HOST
  g_SHUTS : mg "SHUTS" = some t.v_SHUTS ∧ RelV (.int 3) t.v_SHUTS
  g_BARS : mg "BARS" = some t.v_BARS ∧ RelV (.int 4) t.v_BARS
  g_ROOT_NAME : mg "ROOT_NAME" = some t.v_ROOT_NAME ∧ RelV (.str ("" : Str)) t.v_ROOT_NAME
  g_MOST_OPEN : mg "MOST_OPEN" = some t.v_MOST_OPEN ∧ RelV (.int 20) t.v_MOST_OPEN
  z_any : mg "any" = none
  z_enumerate : mg "enumerate" = none
  z_int : mg "int" = none
  z_isinstance : mg "isinstance" = none
  z_len : mg "len" = none
  z_list : mg "list" = none
  z_range : mg "range" = none
  z_sorted : mg "sorted" = none
  z_tuple : mg "tuple" = none
section
variable {P : Program} {w : World} {K : PySem.W.Frag} {mg : Str → Option Value} {base : Heap} {t : Adr}
theorem sc_row_of : FnScope ["rows", "name", "row"] ["rows", "name"] (defScope s_row_of) := ⟨rfl, rfl, rfl, by decide +kernel, rfl, by decide +kernel, by decide +kernel⟩
theorem sc_sort_of : FnScope ["book", "name", "row"] ["book", "name"] (defScope s_sort_of) := ⟨rfl, rfl, rfl, by decide +kernel, rfl, by decide +kernel, by decide +kernel⟩
theorem sc_is_wall : FnScope ["book", "name"] ["book", "name"] (defScope s_is_wall) := ⟨rfl, rfl, rfl, by decide +kernel, rfl, by decide +kernel, by decide +kernel⟩
theorem sc_host_of : FnScope ["book", "name", "row"] ["book", "name"] (defScope s_host_of) := ⟨rfl, rfl, rfl, by decide +kernel, rfl, by decide +kernel, by decide +kernel⟩
theorem sc_frame_of : FnScope ["book", "name", "row"] ["book", "name"] (defScope s_frame_of) := ⟨rfl, rfl, rfl, by decide +kernel, rfl, by decide +kernel, by decide +kernel⟩
theorem sc_belongs : FnScope ["book", "name", "frame", "above"] ["book", "name", "frame"] (defScope s_belongs) := ⟨rfl, rfl, rfl, by decide +kernel, rfl, by decide +kernel, by decide +kernel⟩
theorem sc_straight_above : FnScope ["names"] ["names"] (defScope s_straight_above) := ⟨rfl, rfl, rfl, by decide +kernel, rfl, by decide +kernel, by decide +kernel⟩
theorem sc_near_of : FnScope ["book", "names", "start", "number", "name"] ["book", "names"] (defScope s_near_of) := ⟨rfl, rfl, rfl, by decide +kernel, rfl, by decide +kernel, by decide +kernel⟩
theorem sc_share_a_name : FnScope ["names", "others"] ["names", "others"] (defScope s_share_a_name) := ⟨rfl, rfl, rfl, by decide +kernel, rfl, by decide +kernel, by decide +kernel⟩
theorem sc_closing : FnScope ["book", "names", "name", "number"] ["book", "names", "name"] (defScope s_closing) := ⟨rfl, rfl, rfl, by decide +kernel, rfl, by decide +kernel, by decide +kernel⟩
theorem sc_opening : FnScope ["book", "names", "name", "plan", "kept", "put"] ["book", "names", "name"] (defScope s_opening) := ⟨rfl, rfl, rfl, by decide +kernel, rfl, by decide +kernel, by decide +kernel⟩
theorem sc_wanted : FnScope ["book", "names", "name", "frame", "number", "plan"] ["book", "names", "name"] (defScope s_wanted) := ⟨rfl, rfl, rfl, by decide +kernel, rfl, by decide +kernel, by decide +kernel⟩
theorem sc_wanted_by_guest : FnScope ["book", "names", "name", "hosts"] ["book", "names", "name"] (defScope s_wanted_by_guest) := ⟨rfl, rfl, rfl, by decide +kernel, rfl, by decide +kernel, by decide +kernel⟩
theorem sc_kept_by_shuts : FnScope ["book", "names", "name", "shuts", "first_near", "number"] ["book", "names", "name"] (defScope s_kept_by_shuts) := ⟨rfl, rfl, rfl, by decide +kernel, rfl, by decide +kernel, by decide +kernel⟩
theorem sc_hosts_within : FnScope ["book", "name", "hosts", "host"] ["book", "name"] (defScope s_hosts_within) := ⟨rfl, rfl, rfl, by decide +kernel, rfl, by decide +kernel, by decide +kernel⟩
theorem sc_is_barred : FnScope ["book", "kept", "put", "number", "name", "near"] ["book", "kept", "put"] (defScope s_is_barred) := ⟨rfl, rfl, rfl, by decide +kernel, rfl, by decide +kernel, by decide +kernel⟩
theorem sc__law_cell_at : FnScope ["_law_script", "_law_k"] ["_law_script", "_law_k"] (defScope s__law_cell_at) := ⟨rfl, rfl, rfl, by decide +kernel, rfl, by decide +kernel, by decide +kernel⟩
theorem sc__law_mixed : FnScope ["_law_cell", "_law_k", "_law_half", "_law_number"] ["_law_cell", "_law_k"] (defScope s__law_mixed) := ⟨rfl, rfl, rfl, by decide +kernel, rfl, by decide +kernel, by decide +kernel⟩
theorem sc__law_letters : FnScope ["_law_number", "_law_signs", "_law_width", "_law_j"] ["_law_number"] (defScope s__law_letters) := ⟨rfl, rfl, rfl, by decide +kernel, rfl, by decide +kernel, by decide +kernel⟩
theorem sc__law_names : FnScope ["_law_cell", "_law_letters_here", "_law_names_here", "_law_k", "_law_signs", "_law_name", "_law_spare"] ["_law_cell"] (defScope s__law_names) := ⟨rfl, rfl, rfl, by decide +kernel, rfl, by decide +kernel, by decide +kernel⟩
theorem sc__law_sorts : FnScope ["_law_script", "_law_names_here", "_law_count", "_law_some", "_law_sorts_here", "_law_hosts", "_law_taken", "_law_k", "_law_able", "_law_j"] ["_law_script", "_law_names_here", "_law_count"] (defScope s__law_sorts) := ⟨rfl, rfl, rfl, by decide +kernel, rfl, by decide +kernel, by decide +kernel⟩
theorem sc__law_book : FnScope ["_law_script", "_law_names_here", "_law_count", "_law_sorts_here", "_law_hosts", "_law_taken", "_law_rows", "_law_k", "_law_own", "_law_able", "_law_shuts", "_law_bars", "_law_row_here"] ["_law_script"] (defScope s__law_book) := ⟨rfl, rfl, rfl, by decide +kernel, rfl, by decide +kernel, by decide +kernel⟩
theorem sc__law_row : FnScope ["_law_book_here", "_law_name", "_law_row_here"] ["_law_book_here", "_law_name"] (defScope s__law_row) := ⟨rfl, rfl, rfl, by decide +kernel, rfl, by decide +kernel, by decide +kernel⟩
theorem sc__law_frame : FnScope ["_law_book_here", "_law_name", "_law_row_here"] ["_law_book_here", "_law_name"] (defScope s__law_frame) := ⟨rfl, rfl, rfl, by decide +kernel, rfl, by decide +kernel, by decide +kernel⟩
theorem sc__law_fence : FnScope ["_law_book_here", "_law_name", "_law_row_here"] ["_law_book_here", "_law_name"] (defScope s__law_fence) := ⟨rfl, rfl, rfl, by decide +kernel, rfl, by decide +kernel, by decide +kernel⟩
theorem sc__law_near : FnScope ["_law_book_here", "_law_names_here", "_law_near_here", "_law_name"] ["_law_book_here", "_law_names_here"] (defScope s__law_near) := ⟨rfl, rfl, rfl, by decide +kernel, rfl, by decide +kernel, by decide +kernel⟩
theorem sc__law_may : FnScope ["_law_book_here", "_law_names_here", "_law_name", "_law_row_here", "_law_last", "_law_other"] ["_law_book_here", "_law_names_here", "_law_name"] (defScope s__law_may) := ⟨rfl, rfl, rfl, by decide +kernel, rfl, by decide +kernel, by decide +kernel⟩
theorem sc__law_stack : FnScope ["_law_script", "_law_start", "_law_book_here", "_law_names_here", "_law_cell", "_law_number", "_law_row_here", "_law_times", "_law_k"] ["_law_script", "_law_start", "_law_book_here"] (defScope s__law_stack) := ⟨rfl, rfl, rfl, by decide +kernel, rfl, by decide +kernel, by decide +kernel⟩
theorem sc__law_right : FnScope ["_law_book_here", "_law_names_here", "_law_row_here", "_law_found", "_law_kept", "_law_put", "_law_there", "_law_one", "_law_near_here"] ["_law_book_here", "_law_names_here", "_law_row_here", "_law_found"] (defScope s__law_right) := ⟨rfl, rfl, rfl, by decide +kernel, rfl, by decide +kernel, by decide +kernel⟩
theorem sc_law : FnScope ["_law_script", "_law_book_here", "_law_names_here", "_law_row_here", "_law_found"] ["_law_script"] (defScope s_law) := ⟨rfl, rfl, rfl, by decide +kernel, rfl, by decide +kernel, by decide +kernel⟩
theorem ok_row_of (T : Txt K mg t) : FnOk P w K mg base CX0 1 t.a_row_of t.d_row_of ["rows", "name"] (sp_row_of K) := by
  refine T.F_row_of.ok sc_row_of (len_row_of K) (fun cdv A outer s H vs Q E hr h => ⟨R_row_of K, ?_, rd_row_of h⟩)
  have S := sc_row_of
  refine pss_cons ?_ ?_
  · refine ps_for PassesOwn.never rfl ?_ ?_ ?_
    · exact (pi_any (pv 0))
    · exact (pg_name (i := 2) S.nd rfl (Or.inl rfl))
    · refine pss_one ?_
      refine ps_if ?_ ?_ ?_
      · exact (pt_cmpR (op_eqA hr.units) (pe_ix (ix_any' (hu_of hr)) (pv 2) (pe_glob rfl T.g_NAME.1 T.g_NAME.2) (fun _ _ => rfl)) (pv 1) (nomark _))
      · refine pss_one ?_
        exact (ps_ret (pv 2))
      · exact pss_nil
  refine pss_one ?_
  exact (ps_ret pe_non)
theorem ok_frame_of (T : Txt K mg t) : FnOk P w K mg base CX0 1 t.a_frame_of t.d_frame_of ["book", "name"] (sp_frame_of K) := by
  refine T.F_frame_of.ok sc_frame_of (len_frame_of K) (fun cdv A outer s H vs Q E hr h => ⟨R_frame_of K, ?_, rd_frame_of h⟩)
  have S := sc_frame_of
  refine pss_cons ?_ ?_
  · refine ps_for PassesOwn.never rfl ?_ ?_ ?_
    · exact (pi_any (pv 0))
    · exact (pg_name (i := 2) S.nd rfl (Or.inl rfl))
    · refine pss_one ?_
      refine ps_if ?_ ?_ ?_
      · exact (PW.pt (pw_and (pt_cmpR (op_eqA hr.units) (pe_ix (ix_any' (hu_of hr)) (pv 2) (pe_glob rfl T.g_SORT.1 T.g_SORT.2) (fun _ _ => rfl)) pe_str (nomark _)) (pw_and1 (pt_cmpR (op_eqA hr.units) (pe_ix (ix_any' (hu_of hr)) (pv 2) (pe_glob rfl T.g_HOST.1 T.g_HOST.2) (fun _ _ => rfl)) (pv 1) (nomark _)))))
      · refine pss_one ?_
        exact (ps_ret (pe_ix (ix_any' (hu_of hr)) (pv 2) (pe_glob rfl T.g_NAME.1 T.g_NAME.2) (fun _ _ => rfl)))
      · exact pss_nil
  refine pss_one ?_
  exact (ps_ret pe_non)
theorem ok_straight_above (T : Txt K mg t) : FnOk P w K mg base CX0 1 t.a_straight_above t.d_straight_above ["names"] (sp_straight_above K) := by
  refine T.F_straight_above.ok sc_straight_above (len_straight_above K) (fun cdv A outer s H vs Q E hr h => ⟨R_straight_above K, ?_, rd_straight_above h⟩)
  have S := sc_straight_above
  refine pss_one ?_
  exact (ps_ret (pe_ifExp (pt_cmpR op_gtA (pe_callB call_lenA rfl T.z_len boot_len (pa_cons (pv 0) pa_nil)) pe_int (nomark _)) (pe_ix (ix_any' (hu_of hr)) (pv 0) (pe_un un_neg pe_int) (fun _ _ => rfl)) (pe_glob rfl T.g_ROOT_NAME.1 T.g_ROOT_NAME.2)))
theorem ok_share_a_name (T : Txt K mg t) : FnOk P w K mg base CX0 1 t.a_share_a_name t.d_share_a_name ["names", "others"] (sp_share_a_name K) := by
  refine T.F_share_a_name.ok sc_share_a_name (len_share_a_name K) (fun cdv A outer s H vs Q E hr h => ⟨R_share_a_name K, ?_, rd_share_a_name h⟩)
  have S := sc_share_a_name
  refine pss_one ?_
  exact (ps_ret (pe_callB (call_anyA rfl) rfl T.z_any boot_any (pa_cons (pe_comp rfl (comp_scope (osc := defScope s_share_a_name) (ON := ["names", "others"]) (N := ["others", "name"]) (fr := [some 1, none]) (by decide +kernel) rfl rfl) (pi_any (pv 0)) (fun _ _ _ _ _ _ => (pg_name (i := 1) (show List.Nodup (["others", "name"] : List Str) by decide +kernel) rfl (Or.inl rfl))) tg_name (fun _ _ _ _ _ _ => pts_nil) (fun _ _ _ _ _ _ => (pe_cmpR (op_inB (hu_of hr)) (pv 1) (pv 0) (by with_unfolding_all rfl)))) pa_nil)))
theorem ok__law_cell_at (T : Txt K mg t) : FnOk P w K mg base CX0 1 t.a__law_cell_at t.d__law_cell_at ["_law_script", "_law_k"] (sp__law_cell_at K) := by
  refine T.F__law_cell_at.ok sc__law_cell_at (len__law_cell_at K) (fun cdv A outer s H vs Q E hr h => ⟨R__law_cell_at K, ?_, rd__law_cell_at h⟩)
  have S := sc__law_cell_at
  refine pss_cons ?_ ?_
  · refine ps_if ?_ ?_ ?_
    · exact (pt_cmpR op_ltA (pv 1) (pe_callB call_lenA rfl T.z_len boot_len (pa_cons (pv 0) pa_nil)) (nomark _))
    · refine pss_one ?_
      exact (ps_ret (pe_ix (ix_any' (hu_of hr)) (pv 0) (pv 1) (fun _ _ => rfl)))
    · exact pss_nil
  refine pss_one ?_
  exact (ps_ret pe_int)
theorem ok__law_mixed (T : Txt K mg t) : FnOk P w K mg base CX0 1 t.a__law_mixed t.d__law_mixed ["_law_cell", "_law_k"] (sp__law_mixed K) := by
  refine T.F__law_mixed.ok sc__law_mixed (len__law_mixed K) (fun cdv A outer s H vs Q E hr h => ⟨R__law_mixed K, ?_, rd__law_mixed h⟩)
  have S := sc__law_mixed
  refine pss_cons ?_ ?_
  · refine ps_set (i := 2) ?_ ?_ ?_ ?_ ?_ ?_
    · exact S.nd
    · exact rfl
    · exact (Or.inl rfl)
    · exact (pe_op op_fdiv (pv 0) pe_int)
    · rfl
    · first | exact .inl rfl | exact .inr rfl
  refine pss_cons ?_ ?_
  · refine ps_if ?_ ?_ ?_
    · exact (pt_cmpR (op_eqA hr.units) (pe_op op_mod (pv 0) pe_int) pe_int (nomark _))
    · refine pss_one ?_
      exact (ps_ret (pe_op op_mod (pe_op op_shr (pv 2) (pe_op op_mulA pe_int (pv 1))) (pe_op op_shl pe_int pe_int)))
    · exact pss_nil
  refine pss_cons ?_ ?_
  · refine ps_set (i := 3) ?_ ?_ ?_ ?_ ?_ ?_
    · exact S.nd
    · exact rfl
    · exact (Or.inl rfl)
    · exact (pe_op op_addA (pe_op op_mod (pv 2) pe_int) (pe_op op_mulA pe_int (pe_op op_addA (pv 1) pe_int)))
    · rfl
    · first | exact .inl rfl | exact .inr rfl
  refine pss_cons ?_ ?_
  · refine ps_set (i := 3) ?_ ?_ ?_ ?_ ?_ ?_
    · exact S.nd
    · exact rfl
    · exact (Or.inl rfl)
    · exact (pe_op op_mod (pe_op op_addA (pe_op op_mulA (pv 3) (pv 3)) (pe_op op_mulA pe_int (pv 1))) pe_int)
    · rfl
    · first | exact .inl rfl | exact .inr rfl
  refine pss_one ?_
  exact (ps_ret (pe_op op_mod (pe_op op_addA (pe_op op_addA (pe_op op_mulA (pv 3) (pv 3)) (pe_op op_mulA pe_int (pv 1))) pe_int) pe_int))
theorem ok__law_letters (T : Txt K mg t) : FnOk P w K mg base CX0 1 t.a__law_letters t.d__law_letters ["_law_number"] (sp__law_letters K) := by
  refine T.F__law_letters.ok sc__law_letters (len__law_letters K) (fun cdv A outer s H vs Q E hr h => ⟨R__law_letters K, ?_, rd__law_letters h⟩)
  have S := sc__law_letters
  refine pss_cons ?_ ?_
  · refine ps_set (i := 1) ?_ ?_ ?_ ?_ ?_ ?_
    · exact S.nd
    · exact rfl
    · exact (Or.inl rfl)
    · exact (pe_lst pa_nil)
    · rfl
    · first | exact .inl rfl | exact .inr rfl
  refine pss_cons ?_ ?_
  · refine ps_set (i := 2) ?_ ?_ ?_ ?_ ?_ ?_
    · exact S.nd
    · exact rfl
    · exact (Or.inl rfl)
    · exact (pe_op op_addA pe_int (pe_op op_mod (pv 0) pe_int))
    · rfl
    · first | exact .inl rfl | exact .inr rfl
  refine pss_cons ?_ ?_
  · refine ps_set (i := 0) ?_ ?_ ?_ ?_ ?_ ?_
    · exact S.nd
    · exact rfl
    · exact (Or.inl rfl)
    · exact (pe_op op_fdiv (pv 0) pe_int)
    · rfl
    · first | exact .inl rfl | exact .inr rfl
  refine pss_cons ?_ ?_
  · refine ps_for PassesOwn.never rfl ?_ ?_ ?_
    · exact (pi_range1 rfl T.z_range (pa_cons (pv 2) pa_nil))
    · exact (pg_name (i := 3) S.nd rfl (Or.inl rfl))
    · refine pss_cons ?_ ?_
      · exact (ps_expr (pe_bm PySem.F.plainAttrs_list PySem.F.slot_list_append PySem.F.type_list_append mt_append (pv 1) (pa_cons (pe_op op_mod (pv 0) pe_int) pa_nil)))
      refine pss_one ?_
      refine ps_set (i := 0) ?_ ?_ ?_ ?_ ?_ ?_
      · exact S.nd
      · exact rfl
      · exact (Or.inl rfl)
      · exact (pe_op op_fdiv (pv 0) pe_int)
      · rfl
      · first | exact .inl rfl | exact .inr rfl
  refine pss_one ?_
  exact (ps_ret (pv 1))
theorem ok__law_row (T : Txt K mg t) : FnOk P w K mg base CX0 1 t.a__law_row t.d__law_row ["_law_book_here", "_law_name"] (sp__law_row K) := by
  refine T.F__law_row.ok sc__law_row (len__law_row K) (fun cdv A outer s H vs Q E hr h => ⟨R__law_row K, ?_, rd__law_row h⟩)
  have S := sc__law_row
  refine pss_cons ?_ ?_
  · refine ps_for PassesOwn.never rfl ?_ ?_ ?_
    · exact (pi_any (pv 0))
    · exact (pg_name (i := 2) S.nd rfl (Or.inl rfl))
    · refine pss_one ?_
      refine ps_if ?_ ?_ ?_
      · exact (pt_cmpR (op_eqA hr.units) (pe_ix (ix_any' (hu_of hr)) (pv 2) pe_int (fun _ _ => rfl)) (pv 1) (nomark _))
      · refine pss_one ?_
        exact (ps_ret (pv 2))
      · exact pss_nil
  refine pss_one ?_
  exact (ps_ret pe_non)
theorem ok__law_frame (T : Txt K mg t) : FnOk P w K mg base CX0 1 t.a__law_frame t.d__law_frame ["_law_book_here", "_law_name"] (sp__law_frame K) := by
  refine T.F__law_frame.ok sc__law_frame (len__law_frame K) (fun cdv A outer s H vs Q E hr h => ⟨R__law_frame K, ?_, rd__law_frame h⟩)
  have S := sc__law_frame
  refine pss_cons ?_ ?_
  · refine ps_for PassesOwn.never rfl ?_ ?_ ?_
    · exact (pi_any (pv 0))
    · exact (pg_name (i := 2) S.nd rfl (Or.inl rfl))
    · refine pss_one ?_
      refine ps_if ?_ ?_ ?_
      · exact (PW.pt (pw_and (pt_cmpR (op_eqA hr.units) (pe_ix (ix_any' (hu_of hr)) (pv 2) pe_int (fun _ _ => rfl)) (pv 1) (nomark _)) (pw_and1 (pt_cmpR (op_neA hr.units) (pv 1) pe_str (nomark _)))))
      · refine pss_one ?_
        exact (ps_ret (pe_ix (ix_any' (hu_of hr)) (pv 2) pe_int (fun _ _ => rfl)))
      · exact pss_nil
  refine pss_one ?_
  exact (ps_ret pe_str)
theorem ok_sort_of (T : Txt K mg t) : FnOk P w K mg base CX0 2 t.a_sort_of t.d_sort_of ["book", "name"] (sp_sort_of K) := by
  refine T.F_sort_of.ok sc_sort_of (len_sort_of K) (fun cdv A outer s H vs Q E hr h => ⟨R_sort_of K, ?_, rd_sort_of h⟩)
  have S := sc_sort_of
  refine pss_cons ?_ ?_
  · refine ps_set (i := 2) ?_ ?_ ?_ ?_ ?_ ?_
    · exact S.nd
    · exact rfl
    · exact (Or.inl rfl)
    · exact (pe_call (ok_row_of T) (hr.mono (by first | decide | omega)) rfl T.m_row_of T.F_row_of.kp T.b_row_of .nil pass0 (pa_cons (pv 0) (pa_cons (pv 1) pa_nil)))
    · rfl
    · first | exact .inl rfl | exact .inr rfl
  refine pss_one ?_
  exact (ps_ret (pe_ifExp (pt_cmpR op_isA (pv 2) pe_non (nomark _)) pe_non (pe_ix (ix_any' (hu_of hr)) (pv 2) (pe_glob rfl T.g_SORT.1 T.g_SORT.2) (fun _ _ => rfl))))
theorem ok_host_of (T : Txt K mg t) : FnOk P w K mg base CX0 2 t.a_host_of t.d_host_of ["book", "name"] (sp_host_of K) := by
  refine T.F_host_of.ok sc_host_of (len_host_of K) (fun cdv A outer s H vs Q E hr h => ⟨R_host_of K, ?_, rd_host_of h⟩)
  have S := sc_host_of
  refine pss_cons ?_ ?_
  · refine ps_set (i := 2) ?_ ?_ ?_ ?_ ?_ ?_
    · exact S.nd
    · exact rfl
    · exact (Or.inl rfl)
    · exact (pe_call (ok_row_of T) (hr.mono (by first | decide | omega)) rfl T.m_row_of T.F_row_of.kp T.b_row_of .nil pass0 (pa_cons (pv 0) (pa_cons (pv 1) pa_nil)))
    · rfl
    · first | exact .inl rfl | exact .inr rfl
  refine pss_cons ?_ ?_
  · refine ps_if ?_ ?_ ?_
    · exact (PW.pt (pw_or (pt_cmpR op_isA (pv 2) pe_non (nomark _)) (pw_or1 (pt_cmpR (op_neA hr.units) (pe_ix (ix_any' (hu_of hr)) (pv 2) (pe_glob rfl T.g_SORT.1 T.g_SORT.2) (fun _ _ => rfl)) pe_str (nomark _)))))
    · refine pss_one ?_
      exact (ps_ret pe_non)
    · exact pss_nil
  refine pss_one ?_
  exact (ps_ret (pe_ix (ix_any' (hu_of hr)) (pv 2) (pe_glob rfl T.g_HOST.1 T.g_HOST.2) (fun _ _ => rfl)))
theorem ok_belongs (T : Txt K mg t) : FnOk P w K mg base CX0 2 t.a_belongs t.d_belongs ["book", "name", "frame"] (sp_belongs K) := by
  refine T.F_belongs.ok sc_belongs (len_belongs K) (fun cdv A outer s H vs Q E hr h => ⟨R_belongs K, ?_, rd_belongs h⟩)
  have S := sc_belongs
  refine pss_cons ?_ ?_
  · refine ps_set (i := 3) ?_ ?_ ?_ ?_ ?_ ?_
    · exact S.nd
    · exact rfl
    · exact (Or.inl rfl)
    · exact (pe_call (ok_frame_of T) (hr.mono (by first | decide | omega)) rfl T.m_frame_of T.F_frame_of.kp T.b_frame_of .nil pass0 (pa_cons (pv 0) (pa_cons (pv 1) pa_nil)))
    · rfl
    · first | exact .inl rfl | exact .inr rfl
  refine pss_cons ?_ ?_
  · refine ps_while PassesOwn.never ?_ ?_
    · exact (pt_cmpR op_isnotA (pv 3) pe_non (nomark _))
    · refine pss_cons ?_ ?_
      · refine ps_if ?_ ?_ ?_
        · exact (pt_cmpR (op_eqA hr.units) (pv 3) (pv 2) (nomark _))
        · refine pss_one ?_
          exact (ps_ret pe_bl)
        · exact pss_nil
      refine pss_one ?_
      refine ps_set (i := 3) ?_ ?_ ?_ ?_ ?_ ?_
      · exact S.nd
      · exact rfl
      · exact (Or.inl rfl)
      · exact (pe_call (ok_frame_of T) (hr.mono (by first | decide | omega)) rfl T.m_frame_of T.F_frame_of.kp T.b_frame_of .nil pass0 (pa_cons (pv 0) (pa_cons (pv 3) pa_nil)))
      · rfl
      · first | exact .inl rfl | exact .inr rfl
  refine pss_one ?_
  exact (ps_ret pe_bl)
theorem ok__law_names (T : Txt K mg t) : FnOk P w K mg base CX0 2 t.a__law_names t.d__law_names ["_law_cell"] (sp__law_names K) := by
  refine T.F__law_names.ok sc__law_names (len__law_names K) (fun cdv A outer s H vs Q E hr h => ⟨R__law_names K, ?_, rd__law_names h⟩)
  have S := sc__law_names
  refine pss_cons ?_ ?_
  · refine ps_set (i := 1) ?_ ?_ ?_ ?_ ?_ ?_
    · exact S.nd
    · exact rfl
    · exact (Or.inr rfl)
    · exact pe_str
    · rfl
    · first | exact .inl rfl | exact .inr rfl
  refine pss_cons ?_ ?_
  · refine ps_set (i := 2) ?_ ?_ ?_ ?_ ?_ ?_
    · exact S.nd
    · exact rfl
    · exact (Or.inr rfl)
    · exact (pe_lst pa_nil)
    · rfl
    · first | exact .inl rfl | exact .inr rfl
  refine pss_cons ?_ ?_
  · refine ps_for PassesOwn.never rfl ?_ ?_ ?_
    · exact (pi_range1 rfl T.z_range (pa_cons pe_int pa_nil))
    · exact (pg_name (i := 3) S.nd rfl (Or.inl rfl))
    · refine pss_cons ?_ ?_
      · refine ps_set (i := 4) ?_ ?_ ?_ ?_ ?_ ?_
        · exact S.nd
        · exact rfl
        · exact (Or.inl rfl)
        · exact (pe_call (ok__law_letters T) (hr.mono (by first | decide | omega)) rfl T.m__law_letters T.F__law_letters.kp T.b__law_letters .nil pass0 (pa_cons (pe_op op_mod (pe_op op_shr (pe_op op_fdiv (pv 0) pe_int) (pe_op op_mulA pe_int (pv 3))) (pe_op op_shl pe_int pe_int)) pa_nil))
        · rfl
        · first | exact .inl rfl | exact .inr rfl
      refine pss_cons ?_ ?_
      · refine ps_if ?_ ?_ ?_
        · exact (pt_cmpR (op_eqA hr.units) (pe_op op_mod (pv 0) pe_int) pe_int (nomark _))
        · refine pss_cons ?_ ?_
          · refine ps_set (i := 4) ?_ ?_ ?_ ?_ ?_ ?_
            · exact S.nd
            · exact rfl
            · exact (Or.inl rfl)
            · exact (pe_call (ok__law_letters T) (hr.mono (by first | decide | omega)) rfl T.m__law_letters T.F__law_letters.kp T.b__law_letters .nil pass0 (pa_cons (pe_call (ok__law_mixed T) (hr.mono (by first | decide | omega)) rfl T.m__law_mixed T.F__law_mixed.kp T.b__law_mixed .nil pass0 (pa_cons (pv 0) (pa_cons pe_int pa_nil))) pa_nil))
            · rfl
            · first | exact .inl rfl | exact .inr rfl
          refine pss_one ?_
          exact (ps_asg (pe_op op_mod (pe_op op_addA (pe_ix (ix_any' (hu_of hr)) (pv 4) (pe_un un_neg pe_int) (fun _ _ => rfl)) (pv 3)) pe_int) (pg_sub (pv 4) (pe_un un_neg pe_int) (set_any' (hu_of hr))))
        · exact pss_nil
      refine pss_cons ?_ ?_
      · refine ps_if ?_ ?_ ?_
        · exact (pt_cmpR (op_eqA hr.units) (pe_op op_mod (pv 0) pe_int) pe_int (nomark _))
        · refine pss_cons ?_ ?_
          · refine ps_set (i := 4) ?_ ?_ ?_ ?_ ?_ ?_
            · exact S.nd
            · exact rfl
            · exact (Or.inl rfl)
            · exact (pe_slice sl_any (pe_call (ok__law_letters T) (hr.mono (by first | decide | omega)) rfl T.m__law_letters T.F__law_letters.kp T.b__law_letters .nil pass0 (pa_cons (pe_op op_addA pe_int (pe_op op_mulA pe_int (pe_call (ok__law_mixed T) (hr.mono (by first | decide | omega)) rfl T.m__law_mixed T.F__law_mixed.kp T.b__law_mixed .nil pass0 (pa_cons (pv 0) (pa_cons pe_int pa_nil))))) pa_nil)) po_none (po_some (pe_op op_addA (pe_op op_mod (pv 3) pe_int) pe_int)))
            · rfl
            · first | exact .inl rfl | exact .inr rfl
          refine pss_one ?_
          exact (ps_asg (pe_op op_mod (pe_op op_addA (pe_ix (ix_any' (hu_of hr)) (pv 4) pe_int (fun _ _ => rfl)) (pe_callTy call_intA rfl T.z_int boot_int (pa_cons (pe_cmpR op_gtA (pv 3) pe_int (nomark _)) pa_nil))) pe_int) (pg_sub (pv 4) pe_int (set_any' (hu_of hr))))
        · exact pss_nil
      refine pss_cons ?_ ?_
      · refine ps_set (i := 5) ?_ ?_ ?_ ?_ ?_ ?_
        · exact S.nd
        · exact rfl
        · exact (Or.inl rfl)
        · exact (pe_bm PySem.F.plainAttrs_str PySem.F.slot_str_join PySem.F.type_str_join mt_join pe_str (pa_cons (pe_comp rfl (comp_scope (osc := defScope s__law_names) (ON := ["_law_cell", "_law_letters_here", "_law_names_here", "_law_k", "_law_signs", "_law_name", "_law_spare"]) (N := ["_law_letters_here", "_law_j"]) (fr := [some 1, none]) (by decide +kernel) rfl rfl) (pi_any (pv 4)) (fun _ _ _ _ _ _ => (pg_name (i := 1) (show List.Nodup (["_law_letters_here", "_law_j"] : List Str) by decide +kernel) rfl (Or.inl rfl))) tg_name (fun _ _ _ _ _ _ => pts_nil) (fun _ _ _ _ _ _ => (pe_ix (ix_any' (hu_of hr)) (pv 0) (pv 1) (fun _ _ => rfl)))) pa_nil))
        · rfl
        · first | exact .inl rfl | exact .inr rfl
      refine pss_cons ?_ ?_
      · exact (ps_setC (i := 6) S.nd rfl rfl rfl (comp_scope (osc := defScope s__law_names) (ON := ["_law_cell", "_law_letters_here", "_law_names_here", "_law_k", "_law_signs", "_law_name", "_law_spare"]) (N := ["_law_names_here", "_law_letter"]) (fr := [some 2, none]) (by decide +kernel) rfl rfl) (pi_strs (pv 1)) (fun _ _ _ _ _ _ => (pg_name (i := 1) (show List.Nodup (["_law_names_here", "_law_letter"] : List Str) by decide +kernel) rfl (Or.inl rfl))) tg_name (fun _ _ _ _ _ _ => (pts_one (pt_cmpR (op_notinB (hu_of hr)) (pe_op op_mulA (pv 1) pe_int) (pv 0) (by with_unfolding_all rfl)))) (fun _ _ _ _ _ _ => (pe_op op_mulA (pv 1) pe_int)))
      refine pss_one ?_
      exact (ps_expr (pe_bm PySem.F.plainAttrs_list PySem.F.slot_list_append PySem.F.type_list_append mt_append (pv 2) (pa_cons (pe_ix (ix_any' (hu_of hr)) (pe_lst (pa_cons (pv 5) (pa_cons (pe_ix (ix_any' (hu_of hr)) (pv 6) pe_int (fun _ _ => rfl)) pa_nil))) (pe_callTy call_intA rfl T.z_int boot_int (pa_cons (pe_cmpR (op_inB (hu_of hr)) (pv 5) (pe_op op_addA (pv 2) (pe_lst (pa_cons pe_str (pa_cons pe_str pa_nil)))) (by with_unfolding_all rfl)) pa_nil)) (fun _ _ => rfl)) pa_nil)))
  refine pss_one ?_
  exact (ps_ret (pv 2))
theorem ok__law_sorts (T : Txt K mg t) : FnOk P w K mg base CX0 2 t.a__law_sorts t.d__law_sorts ["_law_script", "_law_names_here", "_law_count"] (sp__law_sorts K) := by
  refine T.F__law_sorts.ok sc__law_sorts (len__law_sorts K) (fun cdv A outer s H vs Q E hr h => ⟨R__law_sorts K, ?_, rd__law_sorts h⟩)
  have S := sc__law_sorts
  refine pss_cons ?_ ?_
  · refine ps_set (i := 3) ?_ ?_ ?_ ?_ ?_ ?_
    · exact S.nd
    · exact rfl
    · exact (Or.inr rfl)
    · refine pe_lst ?_
      with_reducible refine pa_s1 ?_
      with_reducible refine pa_s1 ?_
      with_reducible refine pa_s1 ?_
      with_reducible refine pa_s1 ?_
      with_reducible refine pa_s1 ?_
      with_reducible refine pa_s1 ?_
      with_reducible refine pa_s1 ?_
      with_reducible refine pa_s1 ?_
      with_reducible refine pa_s1 ?_
      exact pa_s0
    · rfl
    · first | exact .inl rfl | exact .inr rfl
  refine pss_cons ?_ ?_
  · refine ps_set (i := 4) ?_ ?_ ?_ ?_ ?_ ?_
    · exact S.nd
    · exact rfl
    · exact (Or.inr rfl)
    · exact (pe_comp rfl (comp_scope (osc := defScope s__law_sorts) (ON := ["_law_script", "_law_names_here", "_law_count", "_law_some", "_law_sorts_here", "_law_hosts", "_law_taken", "_law_k", "_law_able", "_law_j"]) (N := ["_law_some", "_law_script", "_law_k"]) (fr := [some 3, some 0, none]) (by decide +kernel) rfl rfl) (pi_range1 rfl T.z_range (pa_cons (pv 2) pa_nil)) (fun _ _ _ _ _ _ => (pg_name (i := 2) (show List.Nodup (["_law_some", "_law_script", "_law_k"] : List Str) by decide +kernel) rfl (Or.inl rfl))) tg_name (fun _ _ _ _ _ _ => pts_nil) (fun _ _ _ _ _ _ => (pe_ix (ix_any' (hu_of hr)) (pv 0) (pe_op op_mod (pe_call (ok__law_mixed T) (hr.mono (by first | decide | omega)) rfl T.m__law_mixed T.F__law_mixed.kp T.b__law_mixed .nil pass0 (pa_cons (pe_call (ok__law_cell_at T) (hr.mono (by first | decide | omega)) rfl T.m__law_cell_at T.F__law_cell_at.kp T.b__law_cell_at .nil pass0 (pa_cons (pv 1) (pa_cons (pe_op op_addA pe_int (pv 2)) pa_nil))) (pa_cons pe_int pa_nil))) pe_int) (fun _ _ => rfl))))
    · rfl
    · first | exact .inl rfl | exact .inr rfl
  refine pss_cons ?_ ?_
  · exact (ps_setC (i := 5) S.nd rfl rfl rfl (comp_scope (osc := defScope s__law_sorts) (ON := ["_law_script", "_law_names_here", "_law_count", "_law_some", "_law_sorts_here", "_law_hosts", "_law_taken", "_law_k", "_law_able", "_law_j"]) (N := ["_law_k"]) (fr := [none]) (by decide +kernel) rfl rfl) (pi_range1 rfl T.z_range (pa_cons (pv 2) pa_nil)) (fun _ _ _ _ _ _ => (pg_name (i := 0) (show List.Nodup (["_law_k"] : List Str) by decide +kernel) rfl (Or.inl rfl))) tg_name (fun _ _ _ _ _ _ => pts_nil) (fun _ _ _ _ _ _ => pe_str))
  refine pss_cons ?_ ?_
  · refine ps_set (i := 6) ?_ ?_ ?_ ?_ ?_ ?_
    · exact S.nd
    · exact rfl
    · exact (Or.inr rfl)
    · exact (pe_lst pa_nil)
    · rfl
    · first | exact .inl rfl | exact .inr rfl
  refine pss_cons ?_ ?_
  · refine ps_for PassesOwn.never rfl ?_ ?_ ?_
    · exact (pi_range1 rfl T.z_range (pa_cons (pv 2) pa_nil))
    · exact (pg_name (i := 7) S.nd rfl (Or.inl rfl))
    · refine pss_cons ?_ ?_
      · exact (ps_setC (i := 8) S.nd rfl rfl rfl (comp_scope (osc := defScope s__law_sorts) (ON := ["_law_script", "_law_names_here", "_law_count", "_law_some", "_law_sorts_here", "_law_hosts", "_law_taken", "_law_k", "_law_able", "_law_j"]) (N := ["_law_taken", "_law_sorts_here", "_law_j"]) (fr := [some 6, some 4, none]) (by decide +kernel) rfl rfl) (pi_range2 rfl T.z_range (pa_cons (pe_op op_addA (pv 7) pe_int) (pa_cons (pv 2) pa_nil))) (fun _ _ _ _ _ _ => (pg_name (i := 2) (show List.Nodup (["_law_taken", "_law_sorts_here", "_law_j"] : List Str) by decide +kernel) rfl (Or.inl rfl))) tg_name (fun _ _ _ _ _ _ => (pts_one (PW.pt (pw_and (pt_cmpR (op_inB (hu_of hr)) (pe_ix (ix_any' (hu_of hr)) (pv 1) (pv 2) (fun _ _ => rfl)) (pe_tup (pa_cons pe_str (pa_cons pe_str pa_nil))) (by with_unfolding_all rfl)) (pw_and1 (pt_cmpR (op_notinB (hu_of hr)) (pv 2) (pv 0) (by with_unfolding_all rfl))))))) (fun _ _ _ _ _ _ => (pv 2)))
      refine pss_cons ?_ ?_
      · refine ps_if ?_ ?_ ?_
        · exact (PW.pt (pw_and (pt_cmpR (op_eqA hr.units) (pe_ix (ix_any' (hu_of hr)) (pv 4) (pv 7) (fun _ _ => rfl)) pe_str (nomark _)) (pw_and1 (pt_cmpR (op_eqA hr.units) (pv 8) (pe_lst pa_nil) (nomark _)))))
        · refine pss_one ?_
          exact (ps_asg (pe_ix (ix_any' (hu_of hr)) (pe_lst (pa_cons pe_str (pa_cons pe_str pa_nil))) (pe_callTy call_intA rfl T.z_int boot_int (pa_cons (pe_cmpR (op_inB (hu_of hr)) (pv 7) (pv 6) (by with_unfolding_all rfl)) pa_nil)) (fun _ _ => rfl)) (pg_sub (pv 4) (pv 7) (set_any' (hu_of hr))))
        · exact pss_nil
      refine pss_one ?_
      refine ps_if ?_ ?_ ?_
      · exact (pt_cmpR (op_eqA hr.units) (pe_ix (ix_any' (hu_of hr)) (pv 4) (pv 7) (fun _ _ => rfl)) pe_str (nomark _))
      · refine pss_cons ?_ ?_
        · refine ps_set (i := 9) ?_ ?_ ?_ ?_ ?_ ?_
          · exact S.nd
          · exact rfl
          · exact (Or.inl rfl)
          · exact (pe_ix (ix_any' (hu_of hr)) (pv 8) (pe_op op_mod (pe_call (ok__law_mixed T) (hr.mono (by first | decide | omega)) rfl T.m__law_mixed T.F__law_mixed.kp T.b__law_mixed .nil pass0 (pa_cons (pe_call (ok__law_cell_at T) (hr.mono (by first | decide | omega)) rfl T.m__law_cell_at T.F__law_cell_at.kp T.b__law_cell_at .nil pass0 (pa_cons (pv 0) (pa_cons (pe_op op_addA pe_int (pv 7)) pa_nil))) (pa_cons pe_int pa_nil))) (pe_callB call_lenA rfl T.z_len boot_len (pa_cons (pv 8) pa_nil))) (fun _ _ => rfl))
          · rfl
          · first | exact .inl rfl | exact .inr rfl
        refine pss_cons ?_ ?_
        · exact (ps_expr (pe_bm PySem.F.plainAttrs_list PySem.F.slot_list_append PySem.F.type_list_append mt_append (pv 6) (pa_cons (pv 9) pa_nil)))
        refine pss_one ?_
        exact (ps_asg (pe_ix (ix_any' (hu_of hr)) (pv 1) (pv 9) (fun _ _ => rfl)) (pg_sub (pv 5) (pv 7) (set_any' (hu_of hr))))
      · exact pss_nil
  refine pss_one ?_
  exact (ps_ret (pe_tup (pa_cons (pv 4) (pa_cons (pv 5) (pa_cons (pv 6) pa_nil)))))
theorem ok__law_fence (T : Txt K mg t) : FnOk P w K mg base CX0 2 t.a__law_fence t.d__law_fence ["_law_book_here", "_law_name"] (sp__law_fence K) := by
  refine T.F__law_fence.ok sc__law_fence (len__law_fence K) (fun cdv A outer s H vs Q E hr h => ⟨R__law_fence K, ?_, rd__law_fence h⟩)
  have S := sc__law_fence
  refine pss_cons ?_ ?_
  · refine ps_set (i := 2) ?_ ?_ ?_ ?_ ?_ ?_
    · exact S.nd
    · exact rfl
    · exact (Or.inl rfl)
    · exact (pe_call (ok__law_row T) (hr.mono (by first | decide | omega)) rfl T.m__law_row T.F__law_row.kp T.b__law_row .nil pass0 (pa_cons (pv 0) (pa_cons (pv 1) pa_nil)))
    · rfl
    · first | exact .inl rfl | exact .inr rfl
  refine pss_one ?_
  exact (ps_ret (pe_and (pe_cmpR op_isnotA (pv 2) pe_non (nomark _)) (pe_one (pe_cmpR (op_inB (hu_of hr)) (pe_ix (ix_any' (hu_of hr)) (pv 2) pe_int (fun _ _ => rfl)) (pe_tup (pa_cons pe_str (pa_cons pe_str pa_nil))) (by with_unfolding_all rfl)))))
theorem ok_is_wall (T : Txt K mg t) : FnOk P w K mg base CX0 3 t.a_is_wall t.d_is_wall ["book", "name"] (sp_is_wall K) := by
  refine T.F_is_wall.ok sc_is_wall (len_is_wall K) (fun cdv A outer s H vs Q E hr h => ⟨R_is_wall K t.c_WALL_SORTS, ?_, rd_is_wall T.q_WALL_SORTS h⟩)
  have S := sc_is_wall
  refine pss_one ?_
  exact (ps_ret (pe_cmpR (op_inB (hu_of hr)) (pe_call (ok_sort_of T) (hr.mono (by first | decide | omega)) rfl T.m_sort_of T.F_sort_of.kp T.b_sort_of .nil pass0 (pa_cons (pv 0) (pa_cons (pv 1) pa_nil))) (pe_glob rfl T.g_WALL_SORTS rfl) (by with_unfolding_all rfl)))
theorem ok_hosts_within (T : Txt K mg t) : FnOk P w K mg base CX0 3 t.a_hosts_within t.d_hosts_within ["book", "name"] (sp_hosts_within K) := by
  refine T.F_hosts_within.ok sc_hosts_within (len_hosts_within K) (fun cdv A outer s H vs Q E hr h => ⟨R_hosts_within K, ?_, rd_hosts_within h⟩)
  have S := sc_hosts_within
  refine pss_cons ?_ ?_
  · refine ps_set (i := 2) ?_ ?_ ?_ ?_ ?_ ?_
    · exact S.nd
    · exact rfl
    · exact (Or.inl rfl)
    · exact (pe_lst pa_nil)
    · rfl
    · first | exact .inl rfl | exact .inr rfl
  refine pss_cons ?_ ?_
  · refine ps_set (i := 3) ?_ ?_ ?_ ?_ ?_ ?_
    · exact S.nd
    · exact rfl
    · exact (Or.inl rfl)
    · exact (pe_call (ok_host_of T) (hr.mono (by first | decide | omega)) rfl T.m_host_of T.F_host_of.kp T.b_host_of .nil pass0 (pa_cons (pv 0) (pa_cons (pv 1) pa_nil)))
    · rfl
    · first | exact .inl rfl | exact .inr rfl
  refine pss_cons ?_ ?_
  · refine ps_while PassesOwn.never ?_ ?_
    · exact (pt_cmpR op_isnotA (pv 3) pe_non (nomark _))
    · refine pss_cons ?_ ?_
      · exact (ps_expr (pe_bm PySem.F.plainAttrs_list PySem.F.slot_list_append PySem.F.type_list_append mt_append (pv 2) (pa_cons (pv 3) pa_nil)))
      refine pss_one ?_
      refine ps_set (i := 3) ?_ ?_ ?_ ?_ ?_ ?_
      · exact S.nd
      · exact rfl
      · exact (Or.inl rfl)
      · exact (pe_call (ok_host_of T) (hr.mono (by first | decide | omega)) rfl T.m_host_of T.F_host_of.kp T.b_host_of .nil pass0 (pa_cons (pv 0) (pa_cons (pv 3) pa_nil)))
      · rfl
      · first | exact .inl rfl | exact .inr rfl
  refine pss_one ?_
  exact (ps_ret (pe_callTy call_tupleA rfl T.z_tuple boot_tuple (pa_cons (pv 2) pa_nil)))
theorem ok__law_book (T : Txt K mg t) : FnOk P w K mg base CX0 3 t.a__law_book t.d__law_book ["_law_script"] (sp__law_book K) := by
  refine T.F__law_book.ok sc__law_book (len__law_book K) (fun cdv A outer s H vs Q E hr h => ⟨R__law_book K, ?_, rd__law_book h⟩)
  have S := sc__law_book
  refine pss_cons ?_ ?_
  · refine ps_set (i := 1) ?_ ?_ ?_ ?_ ?_ ?_
    · exact S.nd
    · exact rfl
    · exact (Or.inr rfl)
    · exact (pe_call (ok__law_names T) (hr.mono (by first | decide | omega)) rfl T.m__law_names T.F__law_names.kp T.b__law_names .nil pass0 (pa_cons (pe_call (ok__law_cell_at T) (hr.mono (by first | decide | omega)) rfl T.m__law_cell_at T.F__law_cell_at.kp T.b__law_cell_at .nil pass0 (pa_cons (pv 0) (pa_cons pe_int pa_nil))) pa_nil))
    · rfl
    · first | exact .inl rfl | exact .inr rfl
  refine pss_cons ?_ ?_
  · refine ps_set (i := 2) ?_ ?_ ?_ ?_ ?_ ?_
    · exact S.nd
    · exact rfl
    · exact (Or.inl rfl)
    · exact (pe_op op_addA pe_int (pe_op op_mod (pe_call (ok__law_cell_at T) (hr.mono (by first | decide | omega)) rfl T.m__law_cell_at T.F__law_cell_at.kp T.b__law_cell_at .nil pass0 (pa_cons (pv 0) (pa_cons pe_int pa_nil))) pe_int))
    · rfl
    · first | exact .inl rfl | exact .inr rfl
  refine pss_cons ?_ ?_
  · exact (ps_asg (pe_call (ok__law_sorts T) (hr.mono (by first | decide | omega)) rfl T.m__law_sorts T.F__law_sorts.kp T.b__law_sorts .nil pass0 (pa_cons (pv 0) (pa_cons (pv 1) (pa_cons (pv 2) pa_nil)))) (pg_tup rfl (pgs_cons (pg_name (i := 3) S.nd rfl (Or.inr rfl)) (pgs_cons (pg_name (i := 4) S.nd rfl (Or.inl rfl)) (pgs_cons (pg_name (i := 5) S.nd rfl (Or.inr rfl)) pgs_nil)))))
  refine pss_cons ?_ ?_
  · refine ps_set (i := 6) ?_ ?_ ?_ ?_ ?_ ?_
    · exact S.nd
    · exact rfl
    · exact (Or.inl rfl)
    · exact (pe_lst pa_nil)
    · rfl
    · first | exact .inl rfl | exact .inr rfl
  refine pss_cons ?_ ?_
  · refine ps_for PassesOwn.never rfl ?_ ?_ ?_
    · exact (pi_range1 rfl T.z_range (pa_cons (pv 2) pa_nil))
    · exact (pg_name (i := 7) S.nd rfl (Or.inr rfl))
    · refine pss_cons ?_ ?_
      · refine ps_set (i := 8) ?_ ?_ ?_ ?_ ?_ ?_
        · exact S.nd
        · exact rfl
        · exact (Or.inr rfl)
        · exact (pe_call (ok__law_cell_at T) (hr.mono (by first | decide | omega)) rfl T.m__law_cell_at T.F__law_cell_at.kp T.b__law_cell_at .nil pass0 (pa_cons (pv 0) (pa_cons (pe_op op_addA pe_int (pv 7)) pa_nil)))
        · rfl
        · first | exact .inl rfl | exact .inr rfl
      refine pss_cons ?_ ?_
      · exact (ps_setC (i := 9) S.nd rfl rfl rfl (comp_scope (osc := defScope s__law_book) (ON := ["_law_script", "_law_names_here", "_law_count", "_law_sorts_here", "_law_hosts", "_law_taken", "_law_rows", "_law_k", "_law_own", "_law_able", "_law_shuts", "_law_bars", "_law_row_here"]) (N := ["_law_sorts_here", "_law_j"]) (fr := [some 3, none]) (by decide +kernel) rfl rfl) (pi_range1 rfl T.z_range (pa_cons (pv 2) pa_nil)) (fun _ _ _ _ _ _ => (pg_name (i := 1) (show List.Nodup (["_law_sorts_here", "_law_j"] : List Str) by decide +kernel) rfl (Or.inl rfl))) tg_name (fun _ _ _ _ _ _ => (pts_one (pt_cmpR (op_inB (hu_of hr)) (pe_ix (ix_any' (hu_of hr)) (pv 0) (pv 1) (fun _ _ => rfl)) (pe_tup (pa_cons pe_str (pa_cons pe_str pa_nil))) (by with_unfolding_all rfl)))) (fun _ _ _ _ _ _ => (pv 1)))
      refine pss_cons ?_ ?_
      · exact (ps_setC (i := 10) S.nd rfl rfl rfl (comp_scope (osc := defScope s__law_book) (ON := ["_law_script", "_law_names_here", "_law_count", "_law_sorts_here", "_law_hosts", "_law_taken", "_law_rows", "_law_k", "_law_own", "_law_able", "_law_shuts", "_law_bars", "_law_row_here"]) (N := ["_law_names_here", "_law_taken", "_law_k", "_law_own", "_law_j"]) (fr := [some 1, some 5, some 7, some 8, none]) (by decide +kernel) rfl rfl) (pi_any (pv 9)) (fun _ _ _ _ _ _ => (pg_name (i := 4) (show List.Nodup (["_law_names_here", "_law_taken", "_law_k", "_law_own", "_law_j"] : List Str) by decide +kernel) rfl (Or.inl rfl))) tg_name (fun _ _ _ _ _ _ => (pts_one (PW.pt (pw_and (pt_cmpR (op_notinB (hu_of hr)) (pv 4) (pv 1) (by with_unfolding_all rfl)) (pw_and (pt_cmpR (op_notinB (hu_of hr)) (pv 2) (pv 1) (by with_unfolding_all rfl)) (pw_and1 (pt_cmpR (op_eqA hr.units) (pe_op op_mod (pe_call (ok__law_mixed T) (hr.mono (by first | decide | omega)) rfl T.m__law_mixed T.F__law_mixed.kp T.b__law_mixed .nil pass0 (pa_cons (pv 3) (pa_cons (pe_op op_addA pe_int (pv 4)) pa_nil))) pe_int) pe_int (nomark _)))))))) (fun _ _ _ _ _ _ => (pe_ix (ix_any' (hu_of hr)) (pv 0) (pv 4) (fun _ _ => rfl))))
      refine pss_cons ?_ ?_
      · exact (ps_setC (i := 11) S.nd rfl rfl rfl (comp_scope (osc := defScope s__law_book) (ON := ["_law_script", "_law_names_here", "_law_count", "_law_sorts_here", "_law_hosts", "_law_taken", "_law_rows", "_law_k", "_law_own", "_law_able", "_law_shuts", "_law_bars", "_law_row_here"]) (N := ["_law_names_here", "_law_own", "_law_j"]) (fr := [some 1, some 8, none]) (by decide +kernel) rfl rfl) (pi_any (pv 9)) (fun _ _ _ _ _ _ => (pg_name (i := 2) (show List.Nodup (["_law_names_here", "_law_own", "_law_j"] : List Str) by decide +kernel) rfl (Or.inl rfl))) tg_name (fun _ _ _ _ _ _ => (pts_one (pt_cmpR (op_eqA hr.units) (pe_op op_mod (pe_call (ok__law_mixed T) (hr.mono (by first | decide | omega)) rfl T.m__law_mixed T.F__law_mixed.kp T.b__law_mixed .nil pass0 (pa_cons (pv 1) (pa_cons (pe_op op_addA pe_int (pv 2)) pa_nil))) pe_int) pe_int (nomark _)))) (fun _ _ _ _ _ _ => (pe_ix (ix_any' (hu_of hr)) (pv 0) (pv 2) (fun _ _ => rfl))))
      refine pss_cons ?_ ?_
      · refine ps_set (i := 12) ?_ ?_ ?_ ?_ ?_ ?_
        · exact S.nd
        · exact rfl
        · exact (Or.inl rfl)
        · exact (pe_tup (pa_cons (pe_ix (ix_any' (hu_of hr)) (pv 1) (pv 7) (fun _ _ => rfl)) (pa_cons (pe_ix (ix_any' (hu_of hr)) (pv 3) (pv 7) (fun _ _ => rfl)) (pa_cons (pe_ix (ix_any' (hu_of hr)) (pv 4) (pv 7) (fun _ _ => rfl)) (pa_cons (pe_callTy call_tupleA rfl T.z_tuple boot_tuple (pa_cons (pe_callB call_sortedA rfl T.z_sorted boot_sorted (pa_cons (pv 10) pa_nil)) pa_nil)) (pa_cons (pe_callTy call_tupleA rfl T.z_tuple boot_tuple (pa_cons (pe_callB call_sortedA rfl T.z_sorted boot_sorted (pa_cons (pv 11) pa_nil)) pa_nil)) pa_nil))))))
        · rfl
        · first | exact .inl rfl | exact .inr rfl
      refine pss_one ?_
      exact (ps_expr (pe_bm PySem.F.plainAttrs_list PySem.F.slot_list_insert PySem.F.type_list_insert mt_insert (pv 6) (pa_cons (pe_op op_mod (pe_call (ok__law_mixed T) (hr.mono (by first | decide | omega)) rfl T.m__law_mixed T.F__law_mixed.kp T.b__law_mixed .nil pass0 (pa_cons (pv 8) (pa_cons pe_int pa_nil))) (pe_op op_addA (pv 7) pe_int)) (pa_cons (pv 12) pa_nil))))
  refine pss_one ?_
  exact (ps_ret (pe_callTy call_tupleA rfl T.z_tuple boot_tuple (pa_cons (pv 6) pa_nil)))
theorem ok__law_near (T : Txt K mg t) : FnOk P w K mg base CX0 3 t.a__law_near t.d__law_near ["_law_book_here", "_law_names_here"] (sp__law_near K) := by
  refine T.F__law_near.ok sc__law_near (len__law_near K) (fun cdv A outer s H vs Q E hr h => ⟨R__law_near K, ?_, rd__law_near h⟩)
  have S := sc__law_near
  refine pss_cons ?_ ?_
  · refine ps_set (i := 2) ?_ ?_ ?_ ?_ ?_ ?_
    · exact S.nd
    · exact rfl
    · exact (Or.inl rfl)
    · exact (pe_lst pa_nil)
    · rfl
    · first | exact .inl rfl | exact .inr rfl
  refine pss_cons ?_ ?_
  · refine ps_for PassesOwn.never rfl ?_ ?_ ?_
    · exact (pi_any (pv 1))
    · exact (pg_name (i := 3) S.nd rfl (Or.inl rfl))
    · refine pss_cons ?_ ?_
      · exact (ps_expr (pe_bm PySem.F.plainAttrs_list PySem.F.slot_list_append PySem.F.type_list_append mt_append (pv 2) (pa_cons (pv 3) pa_nil)))
      refine pss_one ?_
      refine ps_if ?_ ?_ ?_
      · exact (pt_val (pe_call (ok__law_fence T) (hr.mono (by first | decide | omega)) rfl T.m__law_fence T.F__law_fence.kp T.b__law_fence .nil pass0 (pa_cons (pv 0) (pa_cons (pv 3) pa_nil))))
      · refine pss_one ?_
        refine ps_set (i := 2) ?_ ?_ ?_ ?_ ?_ ?_
        · exact S.nd
        · exact rfl
        · exact (Or.inl rfl)
        · exact (pe_lst pa_nil)
        · rfl
        · first | exact .inl rfl | exact .inr rfl
      · exact pss_nil
  refine pss_one ?_
  exact (ps_ret (pv 2))
theorem ok_near_of (T : Txt K mg t) : FnOk P w K mg base CX0 4 t.a_near_of t.d_near_of ["book", "names"] (sp_near_of K) := by
  refine T.F_near_of.ok sc_near_of (len_near_of K) (fun cdv A outer s H vs Q E hr h => ⟨R_near_of K, ?_, rd_near_of h⟩)
  have S := sc_near_of
  refine pss_cons ?_ ?_
  · refine ps_set (i := 2) ?_ ?_ ?_ ?_ ?_ ?_
    · exact S.nd
    · exact rfl
    · exact (Or.inl rfl)
    · exact pe_int
    · rfl
    · first | exact .inl rfl | exact .inr rfl
  refine pss_cons ?_ ?_
  · refine ps_for PassesOwn.never rfl ?_ ?_ ?_
    · exact (pi_enumT rfl T.z_enumerate (pa_cons (pv 1) pa_nil))
    · exact (pg_tup rfl (pgs_cons (pg_name (i := 3) S.nd rfl (Or.inl rfl)) (pgs_cons (pg_name (i := 4) S.nd rfl (Or.inl rfl)) pgs_nil)))
    · refine pss_one ?_
      refine ps_if ?_ ?_ ?_
      · exact (pt_val (pe_call (ok_is_wall T) (hr.mono (by first | decide | omega)) rfl T.m_is_wall T.F_is_wall.kp T.b_is_wall .nil pass0 (pa_cons (pv 0) (pa_cons (pv 4) pa_nil))))
      · refine pss_one ?_
        refine ps_set (i := 2) ?_ ?_ ?_ ?_ ?_ ?_
        · exact S.nd
        · exact rfl
        · exact (Or.inl rfl)
        · exact (pe_op op_addB (pv 3) pe_int)
        · rfl
        · first | exact .inl rfl | exact .inr rfl
      · exact pss_nil
  refine pss_one ?_
  exact (ps_ret (pe_callTy call_tupleA rfl T.z_tuple boot_tuple (pa_cons (pe_slice sl_anyB (pv 1) (po_some (pv 2)) po_none) pa_nil)))
theorem ok_closing (T : Txt K mg t) : FnOk P w K mg base CX0 4 t.a_closing t.d_closing ["book", "names", "name"] (sp_closing K) := by
  refine T.F_closing.ok sc_closing (len_closing K) (fun cdv A outer s H vs Q E hr h => ⟨R_closing K, ?_, rd_closing h⟩)
  have S := sc_closing
  refine pss_cons ?_ ?_
  · refine ps_for PassesOwn.never rfl ?_ ?_ ?_
    · exact (pi_range3 rfl T.z_range (pa_cons (pe_op op_sub (pe_callB call_lenA rfl T.z_len boot_len (pa_cons (pv 1) pa_nil)) pe_int) (pa_cons (pe_un un_neg pe_int) (pa_cons (pe_un un_neg pe_int) pa_nil))))
    · exact (pg_name (i := 3) S.nd rfl (Or.inl rfl))
    · refine pss_cons ?_ ?_
      · refine ps_if ?_ ?_ ?_
        · exact (pt_cmpR (op_eqA hr.units) (pe_ix (ix_any' (hu_of hr)) (pv 1) (pv 3) (fun _ _ => rfl)) (pv 2) (nomark _))
        · refine pss_one ?_
          exact (ps_ret (pv 3))
        · exact pss_nil
      refine pss_one ?_
      refine ps_if ?_ ?_ ?_
      · exact (PW.pt (pw_and (pt_val (pe_call (ok_is_wall T) (hr.mono (by first | decide | omega)) rfl T.m_is_wall T.F_is_wall.kp T.b_is_wall .nil pass0 (pa_cons (pv 0) (pa_cons (pe_ix (ix_any' (hu_of hr)) (pv 1) (pv 3) (fun _ _ => rfl)) pa_nil)))) (pw_and1 (pt_not (pt_val (pe_call (ok_belongs T) (hr.mono (by first | decide | omega)) rfl T.m_belongs T.F_belongs.kp T.b_belongs .nil pass0 (pa_cons (pv 0) (pa_cons (pe_ix (ix_any' (hu_of hr)) (pv 1) (pv 3) (fun _ _ => rfl)) (pa_cons (pv 2) pa_nil)))))))))
      · refine pss_one ?_
        exact (ps_ret pe_non)
      · exact pss_nil
  refine pss_one ?_
  exact (ps_ret pe_non)
theorem ok__law_may (T : Txt K mg t) : FnOk P w K mg base CX0 4 t.a__law_may t.d__law_may ["_law_book_here", "_law_names_here", "_law_name"] (sp__law_may K) := by
  refine T.F__law_may.ok sc__law_may (len__law_may K) (fun cdv A outer s H vs Q E hr h => ⟨R__law_may K, ?_, rd__law_may h⟩)
  have S := sc__law_may
  refine pss_cons ?_ ?_
  · refine ps_set (i := 3) ?_ ?_ ?_ ?_ ?_ ?_
    · exact S.nd
    · exact rfl
    · exact (Or.inl rfl)
    · exact (pe_call (ok__law_row T) (hr.mono (by first | decide | omega)) rfl T.m__law_row T.F__law_row.kp T.b__law_row .nil pass0 (pa_cons (pv 0) (pa_cons (pv 2) pa_nil)))
    · rfl
    · first | exact .inl rfl | exact .inr rfl
  refine pss_cons ?_ ?_
  · refine ps_set (i := 4) ?_ ?_ ?_ ?_ ?_ ?_
    · exact S.nd
    · exact rfl
    · exact (Or.inl rfl)
    · exact pe_str
    · rfl
    · first | exact .inl rfl | exact .inr rfl
  refine pss_cons ?_ ?_
  · refine ps_if ?_ ?_ ?_
    · exact (pt_cmpR op_gtA (pe_callB call_lenA rfl T.z_len boot_len (pa_cons (pv 1) pa_nil)) pe_int (nomark _))
    · refine pss_one ?_
      refine ps_set (i := 4) ?_ ?_ ?_ ?_ ?_ ?_
      · exact S.nd
      · exact rfl
      · exact (Or.inl rfl)
      · exact (pe_ix (ix_any' (hu_of hr)) (pv 1) (pe_un un_neg pe_int) (fun _ _ => rfl))
      · rfl
      · first | exact .inl rfl | exact .inr rfl
    · exact pss_nil
  refine pss_cons ?_ ?_
  · refine ps_if ?_ ?_ ?_
    · exact (PW.pt (pw_or (pt_cmpR op_isA (pv 3) pe_non (nomark _)) (pw_or1 (pt_cmpR op_gtA (pe_callB call_lenA rfl T.z_len boot_len (pa_cons (pv 1) pa_nil)) pe_int (nomark _)))))
    · refine pss_one ?_
      exact (ps_ret pe_bl)
    · exact pss_nil
  refine pss_cons ?_ ?_
  · refine ps_if ?_ ?_ ?_
    · exact (PW.pt (pw_and (pt_cmpR (op_neA hr.units) (pe_call (ok__law_frame T) (hr.mono (by first | decide | omega)) rfl T.m__law_frame T.F__law_frame.kp T.b__law_frame .nil pass0 (pa_cons (pv 0) (pa_cons (pv 2) pa_nil))) pe_str (nomark _)) (pw_and1 (pt_cmpR (op_neA hr.units) (pe_call (ok__law_frame T) (hr.mono (by first | decide | omega)) rfl T.m__law_frame T.F__law_frame.kp T.b__law_frame .nil pass0 (pa_cons (pv 0) (pa_cons (pv 2) pa_nil))) (pv 4) (nomark _)))))
    · refine pss_one ?_
      exact (ps_ret pe_bl)
    · exact pss_nil
  refine pss_cons ?_ ?_
  · refine ps_if ?_ ?_ ?_
    · exact (PW.pt (pw_and (pt_cmpR (op_neA hr.units) (pv 4) pe_str (nomark _)) (pw_and (pt_cmpR (op_eqA hr.units) (pe_ix (ix_any' (hu_of hr)) (pe_call (ok__law_row T) (hr.mono (by first | decide | omega)) rfl T.m__law_row T.F__law_row.kp T.b__law_row .nil pass0 (pa_cons (pv 0) (pa_cons (pv 4) pa_nil))) pe_int (fun _ _ => rfl)) pe_str (nomark _)) (pw_and1 (pt_cmpR (op_neA hr.units) (pe_ix (ix_any' (hu_of hr)) (pe_call (ok__law_row T) (hr.mono (by first | decide | omega)) rfl T.m__law_row T.F__law_row.kp T.b__law_row .nil pass0 (pa_cons (pv 0) (pa_cons (pv 4) pa_nil))) pe_int (fun _ _ => rfl)) (pv 2) (nomark _))))))
    · refine pss_one ?_
      exact (ps_ret pe_bl)
    · exact pss_nil
  refine pss_cons ?_ ?_
  · refine ps_for PassesOwn.never rfl ?_ ?_ ?_
    · exact (pi_any (pe_call (ok__law_near T) (hr.mono (by first | decide | omega)) rfl T.m__law_near T.F__law_near.kp T.b__law_near .nil pass0 (pa_cons (pv 0) (pa_cons (pv 1) pa_nil))))
    · exact (pg_name (i := 5) S.nd rfl (Or.inl rfl))
    · refine pss_one ?_
      refine ps_if ?_ ?_ ?_
      · exact (PW.pt (pw_or (pt_cmpR (op_inB (hu_of hr)) (pv 5) (pe_ix (ix_any' (hu_of hr)) (pv 3) pe_int (fun _ _ => rfl)) (by with_unfolding_all rfl)) (pw_or1 (pt_cmpR (op_inB (hu_of hr)) (pv 5) (pe_ix (ix_any' (hu_of hr)) (pv 3) pe_int (fun _ _ => rfl)) (by with_unfolding_all rfl)))))
      · refine pss_one ?_
        exact (ps_ret pe_bl)
      · exact pss_nil
  refine pss_one ?_
  exact (ps_ret pe_bl)
theorem ok_kept_by_shuts (T : Txt K mg t) : FnOk P w K mg base CX0 5 t.a_kept_by_shuts t.d_kept_by_shuts ["book", "names", "name"] (sp_kept_by_shuts K) := by
  refine T.F_kept_by_shuts.ok sc_kept_by_shuts (len_kept_by_shuts K) (fun cdv A outer s H vs Q E hr h => ⟨R_kept_by_shuts K, ?_, rd_kept_by_shuts h⟩)
  have S := sc_kept_by_shuts
  refine pss_cons ?_ ?_
  · refine ps_set (i := 3) ?_ ?_ ?_ ?_ ?_ ?_
    · exact S.nd
    · exact rfl
    · exact (Or.inl rfl)
    · exact (pe_ix (ix_any' (hu_of hr)) (pe_call (ok_row_of T) (hr.mono (by first | decide | omega)) rfl T.m_row_of T.F_row_of.kp T.b_row_of .nil pass0 (pa_cons (pv 0) (pa_cons (pv 2) pa_nil))) (pe_glob rfl T.g_SHUTS.1 T.g_SHUTS.2) (fun _ _ => rfl))
    · rfl
    · first | exact .inl rfl | exact .inr rfl
  refine pss_cons ?_ ?_
  · refine ps_set (i := 4) ?_ ?_ ?_ ?_ ?_ ?_
    · exact S.nd
    · exact rfl
    · exact (Or.inl rfl)
    · exact (pe_op op_sub (pe_callB call_lenA rfl T.z_len boot_len (pa_cons (pv 1) pa_nil)) (pe_callB call_lenA rfl T.z_len boot_len (pa_cons (pe_call (ok_near_of T) (hr.mono (by first | decide | omega)) rfl T.m_near_of T.F_near_of.kp T.b_near_of .nil pass0 (pa_cons (pv 0) (pa_cons (pv 1) pa_nil))) pa_nil)))
    · rfl
    · first | exact .inl rfl | exact .inr rfl
  refine pss_cons ?_ ?_
  · refine ps_for PassesOwn.never rfl ?_ ?_ ?_
    · exact (pi_range2 rfl T.z_range (pa_cons (pv 4) (pa_cons (pe_callB call_lenA rfl T.z_len boot_len (pa_cons (pv 1) pa_nil)) pa_nil)))
    · exact (pg_name (i := 5) S.nd rfl (Or.inl rfl))
    · refine pss_one ?_
      refine ps_if ?_ ?_ ?_
      · exact (pt_cmpR (op_inB (hu_of hr)) (pe_ix (ix_any' (hu_of hr)) (pv 1) (pv 5) (fun _ _ => rfl)) (pv 3) (by with_unfolding_all rfl))
      · refine pss_one ?_
        exact (ps_ret (pv 5))
      · exact pss_nil
  refine pss_one ?_
  exact (ps_ret (pe_callB call_lenA rfl T.z_len boot_len (pa_cons (pv 1) pa_nil)))
theorem ok_is_barred (T : Txt K mg t) : FnOk P w K mg base CX0 5 t.a_is_barred t.d_is_barred ["book", "kept", "put"] (sp_is_barred K) := by
  refine T.F_is_barred.ok sc_is_barred (len_is_barred K) (fun cdv A outer s H vs Q E hr h => ⟨R_is_barred K, ?_, rd_is_barred h⟩)
  have S := sc_is_barred
  refine pss_cons ?_ ?_
  · refine ps_for PassesOwn.never rfl ?_ ?_ ?_
    · exact (pi_enumT rfl T.z_enumerate (pa_cons (pv 2) pa_nil))
    · exact (pg_tup rfl (pgs_cons (pg_name (i := 3) S.nd rfl (Or.inl rfl)) (pgs_cons (pg_name (i := 4) S.nd rfl (Or.inl rfl)) pgs_nil)))
    · refine pss_cons ?_ ?_
      · refine ps_set (i := 5) ?_ ?_ ?_ ?_ ?_ ?_
        · exact S.nd
        · exact rfl
        · exact (Or.inl rfl)
        · exact (pe_call (ok_near_of T) (hr.mono (by first | decide | omega)) rfl T.m_near_of T.F_near_of.kp T.b_near_of .nil pass0 (pa_cons (pv 0) (pa_cons (pe_op op_addB (pv 1) (pe_slice sl_anyB (pv 2) po_none (po_some (pv 3)))) pa_nil)))
        · rfl
        · first | exact .inl rfl | exact .inr rfl
      refine pss_one ?_
      refine ps_if ?_ ?_ ?_
      · exact (pt_val (pe_call (ok_share_a_name T) (hr.mono (by first | decide | omega)) rfl T.m_share_a_name T.F_share_a_name.kp T.b_share_a_name .nil pass0 (pa_cons (pv 5) (pa_cons (pe_ix (ix_any' (hu_of hr)) (pe_call (ok_row_of T) (hr.mono (by first | decide | omega)) rfl T.m_row_of T.F_row_of.kp T.b_row_of .nil pass0 (pa_cons (pv 0) (pa_cons (pv 4) pa_nil))) (pe_glob rfl T.g_BARS.1 T.g_BARS.2) (fun _ _ => rfl)) pa_nil))))
      · refine pss_one ?_
        exact (ps_ret pe_bl)
      · exact pss_nil
  refine pss_one ?_
  exact (ps_ret pe_bl)
theorem ok__law_stack (T : Txt K mg t) : FnOk P w K mg base CX0 5 t.a__law_stack t.d__law_stack ["_law_script", "_law_start", "_law_book_here"] (sp__law_stack K) := by
  refine T.F__law_stack.ok sc__law_stack (len__law_stack K) (fun cdv A outer s H vs Q E hr h => ⟨R__law_stack K, ?_, rd__law_stack h⟩)
  have S := sc__law_stack
  refine pss_cons ?_ ?_
  · refine ps_set (i := 3) ?_ ?_ ?_ ?_ ?_ ?_
    · exact S.nd
    · exact rfl
    · exact (Or.inl rfl)
    · exact (pe_lst pa_nil)
    · rfl
    · first | exact .inl rfl | exact .inr rfl
  refine pss_cons ?_ ?_
  · refine ps_for PassesOwn.never rfl ?_ ?_ ?_
    · exact (pi_any (pe_slice sl_any (pv 0) (po_some (pv 1)) (po_some (pe_op op_addA (pv 1) pe_int))))
    · exact (pg_name (i := 4) S.nd rfl (Or.inl rfl))
    · refine pss_cons ?_ ?_
      · refine ps_set (i := 5) ?_ ?_ ?_ ?_ ?_ ?_
        · exact S.nd
        · exact rfl
        · exact (Or.inl rfl)
        · exact (pe_call (ok__law_mixed T) (hr.mono (by first | decide | omega)) rfl T.m__law_mixed T.F__law_mixed.kp T.b__law_mixed .nil pass0 (pa_cons (pv 4) (pa_cons pe_int pa_nil)))
        · rfl
        · first | exact .inl rfl | exact .inr rfl
      refine pss_cons ?_ ?_
      · refine ps_set (i := 6) ?_ ?_ ?_ ?_ ?_ ?_
        · exact S.nd
        · exact rfl
        · exact (Or.inl rfl)
        · exact (pe_ix (ix_any' (hu_of hr)) (pv 2) (pe_op op_mod (pv 5) (pe_callB call_lenA rfl T.z_len boot_len (pa_cons (pv 2) pa_nil))) (fun _ _ => rfl))
        · rfl
        · first | exact .inl rfl | exact .inr rfl
      refine pss_cons ?_ ?_
      · refine ps_set (i := 7) ?_ ?_ ?_ ?_ ?_ ?_
        · exact S.nd
        · exact rfl
        · exact (Or.inl rfl)
        · exact (pe_ix (ix_any' (hu_of hr)) (pe_lst (pa_cons pe_int (pa_cons pe_int (pa_cons pe_int (pa_cons pe_int pa_nil))))) (pe_op op_mod (pe_op op_fdiv (pv 5) pe_int) pe_int) (fun _ _ => rfl))
        · rfl
        · first | exact .inl rfl | exact .inr rfl
      refine pss_cons ?_ ?_
      · refine ps_for PassesOwn.never rfl ?_ ?_ ?_
        · exact (pi_range1 rfl T.z_range (pa_cons (pv 7) pa_nil))
        · exact (pg_name (i := 8) S.nd rfl (Or.inl rfl))
        · refine pss_cons ?_ ?_
          · refine ps_if ?_ ?_ ?_
            · exact (PW.pt (pw_and (pt_cmpR (op_neA hr.units) (pv 3) (pe_lst pa_nil) (nomark _)) (pw_and (pt_cmpR (op_eqA hr.units) (pe_ix (ix_any' (hu_of hr)) (pe_call (ok__law_row T) (hr.mono (by first | decide | omega)) rfl T.m__law_row T.F__law_row.kp T.b__law_row .nil pass0 (pa_cons (pv 2) (pa_cons (pe_ix (ix_any' (hu_of hr)) (pv 3) (pe_un un_neg pe_int) (fun _ _ => rfl)) pa_nil))) pe_int (fun _ _ => rfl)) pe_str (nomark _)) (pw_and1 (pt_cmpR op_gtA (pe_op op_mod (pe_op op_fdiv (pv 5) pe_int) pe_int) pe_int (nomark _))))))
            · refine pss_one ?_
              refine ps_set (i := 6) ?_ ?_ ?_ ?_ ?_ ?_
              · exact S.nd
              · exact rfl
              · exact (Or.inl rfl)
              · exact (pe_call (ok__law_row T) (hr.mono (by first | decide | omega)) rfl T.m__law_row T.F__law_row.kp T.b__law_row .nil pass0 (pa_cons (pv 2) (pa_cons (pe_ix (ix_any' (hu_of hr)) (pe_call (ok__law_row T) (hr.mono (by first | decide | omega)) rfl T.m__law_row T.F__law_row.kp T.b__law_row .nil pass0 (pa_cons (pv 2) (pa_cons (pe_ix (ix_any' (hu_of hr)) (pv 3) (pe_un un_neg pe_int) (fun _ _ => rfl)) pa_nil))) pe_int (fun _ _ => rfl)) pa_nil)))
              · rfl
              · first | exact .inl rfl | exact .inr rfl
            · exact pss_nil
          refine pss_one ?_
          refine ps_if ?_ ?_ ?_
          · exact (PW.pt (pw_and (pt_cmpR (op_neA hr.units) (pe_ix (ix_any' (hu_of hr)) (pv 6) pe_int (fun _ _ => rfl)) pe_str (nomark _)) (pw_and1 (pt_val (pe_call (ok__law_may T) (hr.mono (by first | decide | omega)) rfl T.m__law_may T.F__law_may.kp T.b__law_may .nil pass0 (pa_cons (pv 2) (pa_cons (pv 3) (pa_cons (pe_ix (ix_any' (hu_of hr)) (pv 6) pe_int (fun _ _ => rfl)) pa_nil))))))))
          · refine pss_one ?_
            exact (ps_expr (pe_bm PySem.F.plainAttrs_list PySem.F.slot_list_append PySem.F.type_list_append mt_append (pv 3) (pa_cons (pe_ix (ix_any' (hu_of hr)) (pv 6) pe_int (fun _ _ => rfl)) pa_nil)))
          · exact pss_nil
      refine pss_one ?_
      refine ps_if ?_ ?_ ?_
      · exact (pt_cmpR (op_eqA hr.units) (pe_op op_mod (pe_op op_fdiv (pv 5) pe_int) pe_int) pe_int (nomark _))
      · refine pss_one ?_
        refine ps_set (i := 3) ?_ ?_ ?_ ?_ ?_ ?_
        · exact S.nd
        · exact rfl
        · exact (Or.inl rfl)
        · exact (pe_slice sl_any (pv 3) po_none (po_some (pe_op op_mod (pe_op op_fdiv (pv 5) pe_int) (pe_op op_addA (pe_callB call_lenA rfl T.z_len boot_len (pa_cons (pv 3) pa_nil)) pe_int))))
        · rfl
        · first | exact .inl rfl | exact .inr rfl
      · exact pss_nil
  refine pss_one ?_
  exact (ps_ret (pe_callTy call_tupleA rfl T.z_tuple boot_tuple (pa_cons (pv 3) pa_nil)))
theorem ok__law_right (T : Txt K mg t) : FnOk P w K mg base CX0 5 t.a__law_right t.d__law_right ["_law_book_here", "_law_names_here", "_law_row_here", "_law_found"] (sp__law_right K) := by
  refine T.F__law_right.ok sc__law_right (len__law_right K) (fun cdv A outer s H vs Q E hr h => ⟨R__law_right K, ?_, rd__law_right h⟩)
  have S := sc__law_right
  refine pss_cons ?_ ?_
  · exact (ps_asg (pe_slice sl_anyB (pv 3) (po_some pe_int) po_none) (pg_tup rfl (pgs_cons (pg_name (i := 4) S.nd rfl (Or.inl rfl)) (pgs_cons (pg_name (i := 5) S.nd rfl (Or.inl rfl)) pgs_nil))))
  refine pss_cons ?_ ?_
  · refine ps_set (i := 6) ?_ ?_ ?_ ?_ ?_ ?_
    · exact S.nd
    · exact rfl
    · exact (Or.inl rfl)
    · exact (pe_callTy call_listA rfl T.z_list boot_list (pa_cons (pe_slice sl_anyB (pv 1) po_none (po_some (pv 4))) pa_nil))
    · rfl
    · first | exact .inl rfl | exact .inr rfl
  refine pss_cons ?_ ?_
  · refine ps_if ?_ ?_ ?_
    · exact (PW.pt (pw_or (pt_cmpR (op_eqA hr.units) (pv 5) (pe_tup pa_nil) (nomark _)) (pw_or (pt_cmpR (op_neA hr.units) (pe_ix (ix_any' (hu_of hr)) (pv 5) (pe_un un_neg pe_int) (fun _ _ => rfl)) (pe_ix (ix_any' (hu_of hr)) (pv 2) pe_int (fun _ _ => rfl)) (nomark _)) (pw_or1 (pt_not (pt_chain op_leA op_leA pe_int (pv 4) (pe_callB call_lenA rfl T.z_len boot_len (pa_cons (pv 1) pa_nil))))))))
    · refine pss_one ?_
      exact (ps_ret pe_bl)
    · exact pss_nil
  refine pss_cons ?_ ?_
  · refine ps_for PassesOwn.never rfl ?_ ?_ ?_
    · exact (pi_any (pv 5))
    · exact (pg_name (i := 7) S.nd rfl (Or.inl rfl))
    · refine pss_cons ?_ ?_
      · refine ps_if ?_ ?_ ?_
        · exact (pt_not (pt_val (pe_call (ok__law_may T) (hr.mono (by first | decide | omega)) rfl T.m__law_may T.F__law_may.kp T.b__law_may .nil pass0 (pa_cons (pv 0) (pa_cons (pv 6) (pa_cons (pv 7) pa_nil))))))
        · refine pss_one ?_
          exact (ps_ret pe_bl)
        · exact pss_nil
      refine pss_one ?_
      exact (ps_expr (pe_bm PySem.F.plainAttrs_list PySem.F.slot_list_append PySem.F.type_list_append mt_append (pv 6) (pa_cons (pv 7) pa_nil)))
  refine pss_cons ?_ ?_
  · refine ps_if ?_ ?_ ?_
    · exact (PW.pt (pw_and (pt_cmpR op_ltA (pv 4) (pe_callB call_lenA rfl T.z_len boot_len (pa_cons (pv 1) pa_nil)) (nomark _)) (pw_and1 (pt_cmpR (op_eqA hr.units) (pe_call (ok__law_frame T) (hr.mono (by first | decide | omega)) rfl T.m__law_frame T.F__law_frame.kp T.b__law_frame .nil pass0 (pa_cons (pv 0) (pa_cons (pe_ix (ix_any' (hu_of hr)) (pv 2) pe_int (fun _ _ => rfl)) pa_nil))) pe_str (nomark _)))))
    · refine pss_cons ?_ ?_
      · refine ps_set (i := 8) ?_ ?_ ?_ ?_ ?_ ?_
        · exact S.nd
        · exact rfl
        · exact (Or.inl rfl)
        · exact (pe_call (ok__law_near T) (hr.mono (by first | decide | omega)) rfl T.m__law_near T.F__law_near.kp T.b__law_near .nil pass0 (pa_cons (pv 0) (pa_cons (pv 1) pa_nil)))
        · rfl
        · first | exact .inl rfl | exact .inr rfl
      refine pss_one ?_
      exact (ps_ret (pe_and (pe_cmpR op_leA (pe_op op_sub (pe_callB call_lenA rfl T.z_len boot_len (pa_cons (pv 1) pa_nil)) (pv 4)) (pe_callB call_lenA rfl T.z_len boot_len (pa_cons (pv 8) pa_nil)) (nomark _)) (pe_one (pe_cmpR (op_inB (hu_of hr)) (pe_ix (ix_any' (hu_of hr)) (pv 1) (pv 4) (fun _ _ => rfl)) (pe_ix (ix_any' (hu_of hr)) (pv 2) pe_int (fun _ _ => rfl)) (by with_unfolding_all rfl)))))
    · exact pss_nil
  refine pss_one ?_
  exact (ps_ret pe_bl)
theorem ok_wanted_by_guest (T : Txt K mg t) : FnOk P w K mg base CX0 6 t.a_wanted_by_guest t.d_wanted_by_guest ["book", "names", "name"] (sp_wanted_by_guest K) := by
  refine T.F_wanted_by_guest.ok sc_wanted_by_guest (len_wanted_by_guest K) (fun cdv A outer s H vs Q E hr h => ⟨R_wanted_by_guest K, ?_, rd_wanted_by_guest h⟩)
  have S := sc_wanted_by_guest
  refine pss_cons ?_ ?_
  · refine ps_set (i := 3) ?_ ?_ ?_ ?_ ?_ ?_
    · exact S.nd
    · exact rfl
    · exact (Or.inl rfl)
    · exact (pe_call (ok_hosts_within T) (hr.mono (by first | decide | omega)) rfl T.m_hosts_within T.F_hosts_within.kp T.b_hosts_within .nil pass0 (pa_cons (pv 0) (pa_cons (pe_call (ok_straight_above T) (hr.mono (by first | decide | omega)) rfl T.m_straight_above T.F_straight_above.kp T.b_straight_above .nil pass0 (pa_cons (pv 1) pa_nil)) pa_nil)))
    · rfl
    · first | exact .inl rfl | exact .inr rfl
  refine pss_cons ?_ ?_
  · refine ps_if ?_ ?_ ?_
    · exact (pt_cmpR op_gtA (pe_callB call_lenA rfl T.z_len boot_len (pa_cons (pv 3) pa_nil)) pe_int (nomark _))
    · refine pss_one ?_
      exact (ps_ret (pe_tup (pa_cons (pe_callB call_lenA rfl T.z_len boot_len (pa_cons (pv 1) pa_nil)) (pa_cons (pe_op op_addB (pv 3) (pe_tup (pa_cons (pv 2) pa_nil))) pa_nil))))
    · exact pss_nil
  refine pss_one ?_
  exact (ps_ret (pe_tup (pa_cons (pe_call (ok_kept_by_shuts T) (hr.mono (by first | decide | omega)) rfl T.m_kept_by_shuts T.F_kept_by_shuts.kp T.b_kept_by_shuts .nil pass0 (pa_cons (pv 0) (pa_cons (pv 1) (pa_cons (pv 2) pa_nil)))) (pa_cons (pe_tup (pa_cons (pv 2) pa_nil)) pa_nil))))
theorem okn_wanted (T : Txt K mg t) : ∀ n : Nat, FnOk P w K mg base CX0 (7 + n) t.a_wanted t.d_wanted ["book", "names", "name"] (spn_wanted n K)
  | 0 => by
    have FR : FnOk P w K mg base CX0 6 t.a_wanted t.d_wanted ["book", "names", "name"] (prev_wanted K 0) := ⟨fun _ _ _ _ h => h.elim, fun _ _ _ _ _ _ _ _ _ _ _ _ _ h => h.elim⟩
    refine T.F_wanted.ok (k := 6) sc_wanted (len_wanted K 0) (fun cdv A outer s H vs Q E hr h => ⟨R_wanted K (prev_wanted K 0), ?_, rd_wanted 0 h⟩)
    have S := sc_wanted
    refine pss_cons ?_ ?_
    · refine ps_set (i := 3) ?_ ?_ ?_ ?_ ?_ ?_
      · exact S.nd
      · exact rfl
      · exact (Or.inl rfl)
      · exact (pe_call (ok_frame_of T) (hr.mono (by first | decide | omega)) rfl T.m_frame_of T.F_frame_of.kp T.b_frame_of .nil pass0 (pa_cons (pv 0) (pa_cons (pv 2) pa_nil)))
      · rfl
      · first | exact .inl rfl | exact .inr rfl
    refine pss_cons ?_ ?_
    · refine ps_if ?_ ?_ ?_
      · exact (pt_cmpR op_isA (pv 3) pe_non (nomark _))
      · refine pss_one ?_
        exact (ps_ret (pe_call (ok_wanted_by_guest T) (hr.mono (by first | decide | omega)) rfl T.m_wanted_by_guest T.F_wanted_by_guest.kp T.b_wanted_by_guest .nil pass0 (pa_cons (pv 0) (pa_cons (pv 1) (pa_cons (pv 2) pa_nil)))))
      · exact pss_nil
    refine pss_cons ?_ ?_
    · refine ps_set (i := 4) ?_ ?_ ?_ ?_ ?_ ?_
      · exact S.nd
      · exact rfl
      · exact (Or.inl rfl)
      · exact (pe_call (ok_closing T) (hr.mono (by first | decide | omega)) rfl T.m_closing T.F_closing.kp T.b_closing .nil pass0 (pa_cons (pv 0) (pa_cons (pv 1) (pa_cons (pv 3) pa_nil))))
      · rfl
      · first | exact .inl rfl | exact .inr rfl
    refine pss_cons ?_ ?_
    · refine ps_if ?_ ?_ ?_
      · exact (pt_cmpR op_isnotA (pv 4) pe_non (nomark _))
      · refine pss_one ?_
        exact (ps_ret (pe_tup (pa_cons (pe_op op_addB (pv 4) pe_int) (pa_cons (pe_tup (pa_cons (pv 2) pa_nil)) pa_nil))))
      · exact pss_nil
    refine pss_cons ?_ ?_
    · refine ps_set (i := 5) ?_ ?_ ?_ ?_ ?_ ?_
      · exact S.nd
      · exact rfl
      · exact (Or.inl rfl)
      · exact (pe_call FR (hr.mono (by omega)) rfl T.m_wanted T.F_wanted.kp T.b_wanted .nil pass0 (pa_cons (pv 0) (pa_cons (pv 1) (pa_cons (pv 3) pa_nil))))
      · rfl
      · first | exact .inl rfl | exact .inr rfl
    refine pss_one ?_
    exact (ps_ret (pe_tup (pa_cons (pe_ix (ix_any' (hu_of hr)) (pv 5) pe_int (fun _ _ => rfl)) (pa_cons (pe_op op_addB (pe_ix (ix_any' (hu_of hr)) (pv 5) pe_int (fun _ _ => rfl)) (pe_tup (pa_cons (pv 2) pa_nil))) pa_nil))))
  | n + 1 => by
    have FR : FnOk P w K mg base CX0 (7 + n) t.a_wanted t.d_wanted ["book", "names", "name"] (prev_wanted K (n + 1)) := okn_wanted T n
    refine T.F_wanted.ok (k := (7 + n)) sc_wanted (len_wanted K (n + 1)) (fun cdv A outer s H vs Q E hr h => ⟨R_wanted K (prev_wanted K (n + 1)), ?_, rd_wanted (n + 1) h⟩)
    have S := sc_wanted
    refine pss_cons ?_ ?_
    · refine ps_set (i := 3) ?_ ?_ ?_ ?_ ?_ ?_
      · exact S.nd
      · exact rfl
      · exact (Or.inl rfl)
      · exact (pe_call (ok_frame_of T) (hr.mono (by first | decide | omega)) rfl T.m_frame_of T.F_frame_of.kp T.b_frame_of .nil pass0 (pa_cons (pv 0) (pa_cons (pv 2) pa_nil)))
      · rfl
      · first | exact .inl rfl | exact .inr rfl
    refine pss_cons ?_ ?_
    · refine ps_if ?_ ?_ ?_
      · exact (pt_cmpR op_isA (pv 3) pe_non (nomark _))
      · refine pss_one ?_
        exact (ps_ret (pe_call (ok_wanted_by_guest T) (hr.mono (by first | decide | omega)) rfl T.m_wanted_by_guest T.F_wanted_by_guest.kp T.b_wanted_by_guest .nil pass0 (pa_cons (pv 0) (pa_cons (pv 1) (pa_cons (pv 2) pa_nil)))))
      · exact pss_nil
    refine pss_cons ?_ ?_
    · refine ps_set (i := 4) ?_ ?_ ?_ ?_ ?_ ?_
      · exact S.nd
      · exact rfl
      · exact (Or.inl rfl)
      · exact (pe_call (ok_closing T) (hr.mono (by first | decide | omega)) rfl T.m_closing T.F_closing.kp T.b_closing .nil pass0 (pa_cons (pv 0) (pa_cons (pv 1) (pa_cons (pv 3) pa_nil))))
      · rfl
      · first | exact .inl rfl | exact .inr rfl
    refine pss_cons ?_ ?_
    · refine ps_if ?_ ?_ ?_
      · exact (pt_cmpR op_isnotA (pv 4) pe_non (nomark _))
      · refine pss_one ?_
        exact (ps_ret (pe_tup (pa_cons (pe_op op_addB (pv 4) pe_int) (pa_cons (pe_tup (pa_cons (pv 2) pa_nil)) pa_nil))))
      · exact pss_nil
    refine pss_cons ?_ ?_
    · refine ps_set (i := 5) ?_ ?_ ?_ ?_ ?_ ?_
      · exact S.nd
      · exact rfl
      · exact (Or.inl rfl)
      · exact (pe_call FR (hr.mono (by omega)) rfl T.m_wanted T.F_wanted.kp T.b_wanted .nil pass0 (pa_cons (pv 0) (pa_cons (pv 1) (pa_cons (pv 3) pa_nil))))
      · rfl
      · first | exact .inl rfl | exact .inr rfl
    refine pss_one ?_
    exact (ps_ret (pe_tup (pa_cons (pe_ix (ix_any' (hu_of hr)) (pv 5) pe_int (fun _ _ => rfl)) (pa_cons (pe_op op_addB (pe_ix (ix_any' (hu_of hr)) (pv 5) pe_int (fun _ _ => rfl)) (pe_tup (pa_cons (pv 2) pa_nil))) pa_nil))))
theorem ok_wanted (T : Txt K mg t) : FnOk P w K mg base CX0 20 t.a_wanted t.d_wanted ["book", "names", "name"] (sp_wanted K) := okn_wanted T 13
theorem ok_opening (T : Txt K mg t) : FnOk P w K mg base CX0 21 t.a_opening t.d_opening ["book", "names", "name"] (sp_opening K) := by
  refine T.F_opening.ok sc_opening (len_opening K) (fun cdv A outer s H vs Q E hr h => ⟨R_opening K, ?_, rd_opening h⟩)
  have S := sc_opening
  refine pss_cons ?_ ?_
  · refine ps_set (i := 3) ?_ ?_ ?_ ?_ ?_ ?_
    · exact S.nd
    · exact rfl
    · exact (Or.inl rfl)
    · exact (pe_call (ok_wanted T) (hr.mono (by first | decide | omega)) rfl T.m_wanted T.F_wanted.kp T.b_wanted .nil pass0 (pa_cons (pv 0) (pa_cons (pv 1) (pa_cons (pv 2) pa_nil))))
    · rfl
    · first | exact .inl rfl | exact .inr rfl
  refine pss_cons ?_ ?_
  · refine ps_set (i := 4) ?_ ?_ ?_ ?_ ?_ ?_
    · exact S.nd
    · exact rfl
    · exact (Or.inl rfl)
    · exact (pe_callTy call_tupleA rfl T.z_tuple boot_tuple (pa_cons (pe_slice sl_anyB (pv 1) po_none (po_some (pe_ix (ix_any' (hu_of hr)) (pv 3) pe_int (fun _ _ => rfl)))) pa_nil))
    · rfl
    · first | exact .inl rfl | exact .inr rfl
  refine pss_cons ?_ ?_
  · refine ps_set (i := 5) ?_ ?_ ?_ ?_ ?_ ?_
    · exact S.nd
    · exact rfl
    · exact (Or.inl rfl)
    · exact (pe_ix (ix_any' (hu_of hr)) (pv 3) pe_int (fun _ _ => rfl))
    · rfl
    · first | exact .inl rfl | exact .inr rfl
  refine pss_cons ?_ ?_
  · refine ps_if ?_ ?_ ?_
    · exact (pt_val (pe_call (ok_is_barred T) (hr.mono (by first | decide | omega)) rfl T.m_is_barred T.F_is_barred.kp T.b_is_barred .nil pass0 (pa_cons (pv 0) (pa_cons (pv 4) (pa_cons (pv 5) pa_nil)))))
    · refine pss_one ?_
      exact (ps_ret (pe_tup (pa_cons pe_str (pa_cons pe_str pa_nil))))
    · exact pss_nil
  refine pss_cons ?_ ?_
  · refine ps_if ?_ ?_ ?_
    · exact (pt_cmpR op_gtA (pe_op op_addB (pe_callB call_lenA rfl T.z_len boot_len (pa_cons (pv 4) pa_nil)) (pe_callB call_lenA rfl T.z_len boot_len (pa_cons (pv 5) pa_nil))) (pe_glob rfl T.g_MOST_OPEN.1 T.g_MOST_OPEN.2) (nomark _))
    · refine pss_one ?_
      exact (ps_ret (pe_tup (pa_cons pe_str (pa_cons pe_str pa_nil))))
    · exact pss_nil
  refine pss_one ?_
  exact (ps_ret (pe_tup (pa_cons pe_str (pa_cons (pe_callB call_lenA rfl T.z_len boot_len (pa_cons (pv 4) pa_nil)) (pa_cons (pv 5) pa_nil)))))
theorem ok_law (T : Txt K mg t) : FnOk P w K mg base CX0 22 t.a_law t.d_law ["_law_script"] (sp_law K) := by
  refine T.F_law.ok sc_law (len_law K) (fun cdv A outer s H vs Q E hr h => ⟨R_law K, ?_, rd_law h⟩)
  have S := sc_law
  refine pss_cons ?_ ?_
  · refine ps_set (i := 1) ?_ ?_ ?_ ?_ ?_ ?_
    · exact S.nd
    · exact rfl
    · exact (Or.inl rfl)
    · exact (pe_call (ok__law_book T) (hr.mono (by first | decide | omega)) rfl T.m__law_book T.F__law_book.kp T.b__law_book .nil pass0 (pa_cons (pv 0) pa_nil))
    · rfl
    · first | exact .inl rfl | exact .inr rfl
  refine pss_cons ?_ ?_
  · refine ps_set (i := 2) ?_ ?_ ?_ ?_ ?_ ?_
    · exact S.nd
    · exact rfl
    · exact (Or.inl rfl)
    · exact (pe_call (ok__law_stack T) (hr.mono (by first | decide | omega)) rfl T.m__law_stack T.F__law_stack.kp T.b__law_stack .nil pass0 (pa_cons (pv 0) (pa_cons pe_int (pa_cons (pv 1) pa_nil))))
    · rfl
    · first | exact .inl rfl | exact .inr rfl
  refine pss_cons ?_ ?_
  · refine ps_for PassesOwn.never rfl ?_ ?_ ?_
    · exact (pi_any (pv 1))
    · exact (pg_name (i := 3) S.nd rfl (Or.inl rfl))
    · refine pss_cons ?_ ?_
      · refine ps_set (i := 4) ?_ ?_ ?_ ?_ ?_ ?_
        · exact S.nd
        · exact rfl
        · exact (Or.inl rfl)
        · exact (pe_call (ok_opening T) (hr.mono (by first | decide | omega)) rfl T.m_opening T.F_opening.kp T.b_opening .nil pass0 (pa_cons (pv 1) (pa_cons (pv 2) (pa_cons (pe_ix (ix_any' (hu_of hr)) (pv 3) pe_int (fun _ _ => rfl)) pa_nil))))
        · rfl
        · first | exact .inl rfl | exact .inr rfl
      refine pss_cons ?_ ?_
      · refine ps_if ?_ ?_ ?_
        · exact (PW.pt (pw_or (pt_not (pt_val (pe_callB call_isinstanceA rfl T.z_isinstance boot_isinstance (pa_cons (pv 4) (pa_cons (pe_bltn rfl T.z_tuple boot_tuple rfl) pa_nil))))) (pw_or1 (pt_cmpR (op_notinB (hu_of hr)) (pe_ix (ix_any' (hu_of hr)) (pv 4) pe_int (fun _ _ => rfl)) (pe_tup (pa_cons pe_str (pa_cons pe_str pa_nil))) (by with_unfolding_all rfl)))))
        · refine pss_one ?_
          exact (ps_ret pe_bl)
        · exact pss_nil
      refine pss_cons ?_ ?_
      · refine ps_if ?_ ?_ ?_
        · exact (PW.pt (pw_and (pt_cmpR (op_eqA hr.units) (pe_ix (ix_any' (hu_of hr)) (pv 4) pe_int (fun _ _ => rfl)) pe_str (nomark _)) (pw_and1 (pt_not (pt_val (pe_call (ok__law_right T) (hr.mono (by first | decide | omega)) rfl T.m__law_right T.F__law_right.kp T.b__law_right .nil pass0 (pa_cons (pv 1) (pa_cons (pv 2) (pa_cons (pv 3) (pa_cons (pv 4) pa_nil))))))))))
        · refine pss_one ?_
          exact (ps_ret pe_bl)
        · exact pss_nil
      refine pss_cons ?_ ?_
      · refine ps_if ?_ ?_ ?_
        · exact (PW.pt (pw_and (pt_cmpR (op_eqA hr.units) (pe_ix (ix_any' (hu_of hr)) (pv 4) pe_int (fun _ _ => rfl)) pe_str (nomark _)) (pw_and (pt_cmpR (op_eqA hr.units) (pe_ix (ix_any' (hu_of hr)) (pv 4) pe_int (fun _ _ => rfl)) pe_str (nomark _)) (pw_and1 (pt_cmpR op_leA (pe_op op_addB (pe_callB call_lenA rfl T.z_len boot_len (pa_cons (pv 2) pa_nil)) (pe_callB call_lenA rfl T.z_len boot_len (pa_cons (pv 1) pa_nil))) pe_int (nomark _))))))
        · refine pss_one ?_
          exact (ps_ret pe_bl)
        · exact pss_nil
      refine pss_one ?_
      refine ps_if ?_ ?_ ?_
      · exact (PW.pt (pw_and (pt_cmpR (op_eqA hr.units) (pv 4) (pe_tup (pa_cons pe_str (pa_cons pe_str pa_nil))) (nomark _)) (pw_and1 (pt_cmpR (op_eqA hr.units) (pe_comp rfl (comp_scope (osc := defScope s_law) (ON := ["_law_script", "_law_book_here", "_law_names_here", "_law_row_here", "_law_found"]) (N := ["_law_one"]) (fr := [none]) (by decide +kernel) rfl rfl) (pi_any (pv 1)) (fun _ _ _ _ _ _ => (pg_name (i := 0) (show List.Nodup (["_law_one"] : List Str) by decide +kernel) rfl (Or.inl rfl))) tg_name (fun _ _ _ _ _ _ => (pts_one (pt_cmpR (op_neA hr.units) (pe_ix (ix_any' (hu_of hr)) (pv 0) pe_int (fun _ _ => rfl)) (pe_tup pa_nil) (nomark _)))) (fun _ _ _ _ _ _ => (pv 0))) (pe_lst pa_nil) (nomark _)))))
      · refine pss_one ?_
        exact (ps_ret pe_bl)
      · exact pss_nil
  refine pss_one ?_
  exact (ps_ret pe_bl)
end
theorem all_mk {l : PySem.W.OpenLaw} {w : World} {K : PySem.W.Frag} {h : Heap} {mg : Str → Option Value} {fa f0 f1 f2 f3 f4 f5 f6 f7 f8 f9 f10 f11 f12 f13 f14 f15 f16 f17 f18 f19 f20 f21 f22 f23 f24 f25 f26 f27 f28 f29 : Addr} (X : K.In h) (G : h.Ns mainGlobals mg) (hfa : mg "law" = some (.ref fa))
    {od0 an0 od1 an1 od2 an2 od3 an3 od4 an4 od5 an5 od6 an6 od7 an7 od8 an8 od9 an9 od10 an10 od11 an11 od12 an12 od13 an13 od14 an14 od15 an15 od16 an16 od17 an17 od18 an18 od19 an19 od20 an20 od21 an21 od22 an22 od23 an23 od24 an24 od25 an25 od26 an26 od27 an27 od28 an28 od29 an29 : Option Addr} {sl0 sl1 sl2 sl3 sl4 sl5 sl6 sl7 sl8 sl9 sl10 sl11 sl12 sl13 sl14 sl15 sl16 sl17 sl18 sl19 sl20 sl21 sl22 sl23 sl24 sl25 sl26 sl27 sl28 sl29 : Array (Option Value)} {oc0 kV0 dc0 pm0 cd0 ct0 oc1 kV1 dc1 pm1 cd1 ct1 oc2 kV2 dc2 pm2 cd2 ct2 oc3 kV3 dc3 pm3 cd3 ct3 oc4 kV4 dc4 pm4 cd4 ct4 oc5 kV5 dc5 pm5 cd5 ct5 oc6 kV6 dc6 pm6 cd6 ct6 oc7 kV7 dc7 pm7 cd7 ct7 oc8 kV8 dc8 pm8 cd8 ct8 oc9 kV9 dc9 pm9 cd9 ct9 oc10 kV10 dc10 pm10 cd10 ct10 oc11 kV11 dc11 pm11 cd11 ct11 oc12 kV12 dc12 pm12 cd12 ct12 oc13 kV13 dc13 pm13 cd13 ct13 oc14 kV14 dc14 pm14 cd14 ct14 oc15 kV15 dc15 pm15 cd15 ct15 oc16 kV16 dc16 pm16 cd16 ct16 oc17 kV17 dc17 pm17 cd17 ct17 oc18 kV18 dc18 pm18 cd18 ct18 oc19 kV19 dc19 pm19 cd19 ct19 oc20 kV20 dc20 pm20 cd20 ct20 oc21 kV21 dc21 pm21 cd21 ct21 oc22 kV22 dc22 pm22 cd22 ct22 oc23 kV23 dc23 pm23 cd23 ct23 oc24 kV24 dc24 pm24 cd24 ct24 oc25 kV25 dc25 pm25 cd25 ct25 oc26 kV26 dc26 pm26 cd26 ct26 oc27 kV27 dc27 pm27 cd27 ct27 oc28 kV28 dc28 pm28 cd28 ct28 oc29 kV29 dc29 pm29 cd29 ct29 : Value}
    {k_NAME k_SORT k_HOST k_SHUTS k_BARS k_ROOT_NAME k_MOST_OPEN : Tok}
    {c_WALL_SORTS : Addr} {d_WALL_SORTS : Option Addr} {n_WALL_SORTS : Nat} {sl_WALL_SORTS : Array (Option Value)} {k_WALL_SORTS_0 k_WALL_SORTS_1 : Tok}
    (a0 : PySem.W.nsIn K mainGlobals "row_of" = some (some (.ref f0))) (l0 : K.lookup f0 = some ⟨oc0, od0, .func (PySem.W.fnOf "row_of" "row_of" (defArgs s_row_of) (defBody s_row_of) (defScope s_row_of) .none kV0 dc0 pm0 an0 cd0 ct0), sl0⟩) (c0 : PySem.W.codeIn K cd0 "row_of" = true) (k0 : PySem.W.keepIn K (.ref f0) = true)
    (a1 : PySem.W.nsIn K mainGlobals "sort_of" = some (some (.ref f1))) (l1 : K.lookup f1 = some ⟨oc1, od1, .func (PySem.W.fnOf "sort_of" "sort_of" (defArgs s_sort_of) (defBody s_sort_of) (defScope s_sort_of) .none kV1 dc1 pm1 an1 cd1 ct1), sl1⟩) (c1 : PySem.W.codeIn K cd1 "sort_of" = true) (k1 : PySem.W.keepIn K (.ref f1) = true)
    (a2 : PySem.W.nsIn K mainGlobals "is_wall" = some (some (.ref f2))) (l2 : K.lookup f2 = some ⟨oc2, od2, .func (PySem.W.fnOf "is_wall" "is_wall" (defArgs s_is_wall) (defBody s_is_wall) (defScope s_is_wall) .none kV2 dc2 pm2 an2 cd2 ct2), sl2⟩) (c2 : PySem.W.codeIn K cd2 "is_wall" = true) (k2 : PySem.W.keepIn K (.ref f2) = true)
    (a3 : PySem.W.nsIn K mainGlobals "host_of" = some (some (.ref f3))) (l3 : K.lookup f3 = some ⟨oc3, od3, .func (PySem.W.fnOf "host_of" "host_of" (defArgs s_host_of) (defBody s_host_of) (defScope s_host_of) .none kV3 dc3 pm3 an3 cd3 ct3), sl3⟩) (c3 : PySem.W.codeIn K cd3 "host_of" = true) (k3 : PySem.W.keepIn K (.ref f3) = true)
    (a4 : PySem.W.nsIn K mainGlobals "frame_of" = some (some (.ref f4))) (l4 : K.lookup f4 = some ⟨oc4, od4, .func (PySem.W.fnOf "frame_of" "frame_of" (defArgs s_frame_of) (defBody s_frame_of) (defScope s_frame_of) .none kV4 dc4 pm4 an4 cd4 ct4), sl4⟩) (c4 : PySem.W.codeIn K cd4 "frame_of" = true) (k4 : PySem.W.keepIn K (.ref f4) = true)
    (a5 : PySem.W.nsIn K mainGlobals "belongs" = some (some (.ref f5))) (l5 : K.lookup f5 = some ⟨oc5, od5, .func (PySem.W.fnOf "belongs" "belongs" (defArgs s_belongs) (defBody s_belongs) (defScope s_belongs) .none kV5 dc5 pm5 an5 cd5 ct5), sl5⟩) (c5 : PySem.W.codeIn K cd5 "belongs" = true) (k5 : PySem.W.keepIn K (.ref f5) = true)
    (a6 : PySem.W.nsIn K mainGlobals "straight_above" = some (some (.ref f6))) (l6 : K.lookup f6 = some ⟨oc6, od6, .func (PySem.W.fnOf "straight_above" "straight_above" (defArgs s_straight_above) (defBody s_straight_above) (defScope s_straight_above) .none kV6 dc6 pm6 an6 cd6 ct6), sl6⟩) (c6 : PySem.W.codeIn K cd6 "straight_above" = true) (k6 : PySem.W.keepIn K (.ref f6) = true)
    (a7 : PySem.W.nsIn K mainGlobals "near_of" = some (some (.ref f7))) (l7 : K.lookup f7 = some ⟨oc7, od7, .func (PySem.W.fnOf "near_of" "near_of" (defArgs s_near_of) (defBody s_near_of) (defScope s_near_of) .none kV7 dc7 pm7 an7 cd7 ct7), sl7⟩) (c7 : PySem.W.codeIn K cd7 "near_of" = true) (k7 : PySem.W.keepIn K (.ref f7) = true)
    (a8 : PySem.W.nsIn K mainGlobals "share_a_name" = some (some (.ref f8))) (l8 : K.lookup f8 = some ⟨oc8, od8, .func (PySem.W.fnOf "share_a_name" "share_a_name" (defArgs s_share_a_name) (defBody s_share_a_name) (defScope s_share_a_name) .none kV8 dc8 pm8 an8 cd8 ct8), sl8⟩) (c8 : PySem.W.codeIn K cd8 "share_a_name" = true) (k8 : PySem.W.keepIn K (.ref f8) = true)
    (a9 : PySem.W.nsIn K mainGlobals "closing" = some (some (.ref f9))) (l9 : K.lookup f9 = some ⟨oc9, od9, .func (PySem.W.fnOf "closing" "closing" (defArgs s_closing) (defBody s_closing) (defScope s_closing) .none kV9 dc9 pm9 an9 cd9 ct9), sl9⟩) (c9 : PySem.W.codeIn K cd9 "closing" = true) (k9 : PySem.W.keepIn K (.ref f9) = true)
    (a10 : PySem.W.nsIn K mainGlobals "opening" = some (some (.ref f10))) (l10 : K.lookup f10 = some ⟨oc10, od10, .func (PySem.W.fnOf "opening" "opening" (defArgs s_opening) (defBody s_opening) (defScope s_opening) .none kV10 dc10 pm10 an10 cd10 ct10), sl10⟩) (c10 : PySem.W.codeIn K cd10 "opening" = true) (k10 : PySem.W.keepIn K (.ref f10) = true)
    (a11 : PySem.W.nsIn K mainGlobals "wanted" = some (some (.ref f11))) (l11 : K.lookup f11 = some ⟨oc11, od11, .func (PySem.W.fnOf "wanted" "wanted" (defArgs s_wanted) (defBody s_wanted) (defScope s_wanted) .none kV11 dc11 pm11 an11 cd11 ct11), sl11⟩) (c11 : PySem.W.codeIn K cd11 "wanted" = true) (k11 : PySem.W.keepIn K (.ref f11) = true)
    (a12 : PySem.W.nsIn K mainGlobals "wanted_by_guest" = some (some (.ref f12))) (l12 : K.lookup f12 = some ⟨oc12, od12, .func (PySem.W.fnOf "wanted_by_guest" "wanted_by_guest" (defArgs s_wanted_by_guest) (defBody s_wanted_by_guest) (defScope s_wanted_by_guest) .none kV12 dc12 pm12 an12 cd12 ct12), sl12⟩) (c12 : PySem.W.codeIn K cd12 "wanted_by_guest" = true) (k12 : PySem.W.keepIn K (.ref f12) = true)
    (a13 : PySem.W.nsIn K mainGlobals "kept_by_shuts" = some (some (.ref f13))) (l13 : K.lookup f13 = some ⟨oc13, od13, .func (PySem.W.fnOf "kept_by_shuts" "kept_by_shuts" (defArgs s_kept_by_shuts) (defBody s_kept_by_shuts) (defScope s_kept_by_shuts) .none kV13 dc13 pm13 an13 cd13 ct13), sl13⟩) (c13 : PySem.W.codeIn K cd13 "kept_by_shuts" = true) (k13 : PySem.W.keepIn K (.ref f13) = true)
    (a14 : PySem.W.nsIn K mainGlobals "hosts_within" = some (some (.ref f14))) (l14 : K.lookup f14 = some ⟨oc14, od14, .func (PySem.W.fnOf "hosts_within" "hosts_within" (defArgs s_hosts_within) (defBody s_hosts_within) (defScope s_hosts_within) .none kV14 dc14 pm14 an14 cd14 ct14), sl14⟩) (c14 : PySem.W.codeIn K cd14 "hosts_within" = true) (k14 : PySem.W.keepIn K (.ref f14) = true)
    (a15 : PySem.W.nsIn K mainGlobals "is_barred" = some (some (.ref f15))) (l15 : K.lookup f15 = some ⟨oc15, od15, .func (PySem.W.fnOf "is_barred" "is_barred" (defArgs s_is_barred) (defBody s_is_barred) (defScope s_is_barred) .none kV15 dc15 pm15 an15 cd15 ct15), sl15⟩) (c15 : PySem.W.codeIn K cd15 "is_barred" = true) (k15 : PySem.W.keepIn K (.ref f15) = true)
    (a16 : PySem.W.nsIn K mainGlobals "_law_cell_at" = some (some (.ref f16))) (l16 : K.lookup f16 = some ⟨oc16, od16, .func (PySem.W.fnOf "_law_cell_at" "_law_cell_at" (defArgs s__law_cell_at) (defBody s__law_cell_at) (defScope s__law_cell_at) .none kV16 dc16 pm16 an16 cd16 ct16), sl16⟩) (c16 : PySem.W.codeIn K cd16 "_law_cell_at" = true) (k16 : PySem.W.keepIn K (.ref f16) = true)
    (a17 : PySem.W.nsIn K mainGlobals "_law_mixed" = some (some (.ref f17))) (l17 : K.lookup f17 = some ⟨oc17, od17, .func (PySem.W.fnOf "_law_mixed" "_law_mixed" (defArgs s__law_mixed) (defBody s__law_mixed) (defScope s__law_mixed) .none kV17 dc17 pm17 an17 cd17 ct17), sl17⟩) (c17 : PySem.W.codeIn K cd17 "_law_mixed" = true) (k17 : PySem.W.keepIn K (.ref f17) = true)
    (a18 : PySem.W.nsIn K mainGlobals "_law_letters" = some (some (.ref f18))) (l18 : K.lookup f18 = some ⟨oc18, od18, .func (PySem.W.fnOf "_law_letters" "_law_letters" (defArgs s__law_letters) (defBody s__law_letters) (defScope s__law_letters) .none kV18 dc18 pm18 an18 cd18 ct18), sl18⟩) (c18 : PySem.W.codeIn K cd18 "_law_letters" = true) (k18 : PySem.W.keepIn K (.ref f18) = true)
    (a19 : PySem.W.nsIn K mainGlobals "_law_names" = some (some (.ref f19))) (l19 : K.lookup f19 = some ⟨oc19, od19, .func (PySem.W.fnOf "_law_names" "_law_names" (defArgs s__law_names) (defBody s__law_names) (defScope s__law_names) .none kV19 dc19 pm19 an19 cd19 ct19), sl19⟩) (c19 : PySem.W.codeIn K cd19 "_law_names" = true) (k19 : PySem.W.keepIn K (.ref f19) = true)
    (a20 : PySem.W.nsIn K mainGlobals "_law_sorts" = some (some (.ref f20))) (l20 : K.lookup f20 = some ⟨oc20, od20, .func (PySem.W.fnOf "_law_sorts" "_law_sorts" (defArgs s__law_sorts) (defBody s__law_sorts) (defScope s__law_sorts) .none kV20 dc20 pm20 an20 cd20 ct20), sl20⟩) (c20 : PySem.W.codeIn K cd20 "_law_sorts" = true) (k20 : PySem.W.keepIn K (.ref f20) = true)
    (a21 : PySem.W.nsIn K mainGlobals "_law_book" = some (some (.ref f21))) (l21 : K.lookup f21 = some ⟨oc21, od21, .func (PySem.W.fnOf "_law_book" "_law_book" (defArgs s__law_book) (defBody s__law_book) (defScope s__law_book) .none kV21 dc21 pm21 an21 cd21 ct21), sl21⟩) (c21 : PySem.W.codeIn K cd21 "_law_book" = true) (k21 : PySem.W.keepIn K (.ref f21) = true)
    (a22 : PySem.W.nsIn K mainGlobals "_law_row" = some (some (.ref f22))) (l22 : K.lookup f22 = some ⟨oc22, od22, .func (PySem.W.fnOf "_law_row" "_law_row" (defArgs s__law_row) (defBody s__law_row) (defScope s__law_row) .none kV22 dc22 pm22 an22 cd22 ct22), sl22⟩) (c22 : PySem.W.codeIn K cd22 "_law_row" = true) (k22 : PySem.W.keepIn K (.ref f22) = true)
    (a23 : PySem.W.nsIn K mainGlobals "_law_frame" = some (some (.ref f23))) (l23 : K.lookup f23 = some ⟨oc23, od23, .func (PySem.W.fnOf "_law_frame" "_law_frame" (defArgs s__law_frame) (defBody s__law_frame) (defScope s__law_frame) .none kV23 dc23 pm23 an23 cd23 ct23), sl23⟩) (c23 : PySem.W.codeIn K cd23 "_law_frame" = true) (k23 : PySem.W.keepIn K (.ref f23) = true)
    (a24 : PySem.W.nsIn K mainGlobals "_law_fence" = some (some (.ref f24))) (l24 : K.lookup f24 = some ⟨oc24, od24, .func (PySem.W.fnOf "_law_fence" "_law_fence" (defArgs s__law_fence) (defBody s__law_fence) (defScope s__law_fence) .none kV24 dc24 pm24 an24 cd24 ct24), sl24⟩) (c24 : PySem.W.codeIn K cd24 "_law_fence" = true) (k24 : PySem.W.keepIn K (.ref f24) = true)
    (a25 : PySem.W.nsIn K mainGlobals "_law_near" = some (some (.ref f25))) (l25 : K.lookup f25 = some ⟨oc25, od25, .func (PySem.W.fnOf "_law_near" "_law_near" (defArgs s__law_near) (defBody s__law_near) (defScope s__law_near) .none kV25 dc25 pm25 an25 cd25 ct25), sl25⟩) (c25 : PySem.W.codeIn K cd25 "_law_near" = true) (k25 : PySem.W.keepIn K (.ref f25) = true)
    (a26 : PySem.W.nsIn K mainGlobals "_law_may" = some (some (.ref f26))) (l26 : K.lookup f26 = some ⟨oc26, od26, .func (PySem.W.fnOf "_law_may" "_law_may" (defArgs s__law_may) (defBody s__law_may) (defScope s__law_may) .none kV26 dc26 pm26 an26 cd26 ct26), sl26⟩) (c26 : PySem.W.codeIn K cd26 "_law_may" = true) (k26 : PySem.W.keepIn K (.ref f26) = true)
    (a27 : PySem.W.nsIn K mainGlobals "_law_stack" = some (some (.ref f27))) (l27 : K.lookup f27 = some ⟨oc27, od27, .func (PySem.W.fnOf "_law_stack" "_law_stack" (defArgs s__law_stack) (defBody s__law_stack) (defScope s__law_stack) .none kV27 dc27 pm27 an27 cd27 ct27), sl27⟩) (c27 : PySem.W.codeIn K cd27 "_law_stack" = true) (k27 : PySem.W.keepIn K (.ref f27) = true)
    (a28 : PySem.W.nsIn K mainGlobals "_law_right" = some (some (.ref f28))) (l28 : K.lookup f28 = some ⟨oc28, od28, .func (PySem.W.fnOf "_law_right" "_law_right" (defArgs s__law_right) (defBody s__law_right) (defScope s__law_right) .none kV28 dc28 pm28 an28 cd28 ct28), sl28⟩) (c28 : PySem.W.codeIn K cd28 "_law_right" = true) (k28 : PySem.W.keepIn K (.ref f28) = true)
    (a29 : PySem.W.nsIn K mainGlobals "law" = some (some (.ref f29))) (l29 : K.lookup f29 = some ⟨oc29, od29, .func (PySem.W.fnOf "law" "law" (defArgs s_law) (defBody s_law) (defScope s_law) .none kV29 dc29 pm29 an29 cd29 ct29), sl29⟩) (c29 : PySem.W.codeIn K cd29 "law" = true) (k29 : PySem.W.keepIn K (.ref f29) = true)
    (uNAME : PySem.W.nsIn K mainGlobals "NAME" = some (some (.int 0 k_NAME)))
    (uSORT : PySem.W.nsIn K mainGlobals "SORT" = some (some (.int 1 k_SORT)))
    (uHOST : PySem.W.nsIn K mainGlobals "HOST" = some (some (.int 2 k_HOST)))
    (uSHUTS : PySem.W.nsIn K mainGlobals "SHUTS" = some (some (.int 3 k_SHUTS)))
    (uBARS : PySem.W.nsIn K mainGlobals "BARS" = some (some (.int 4 k_BARS)))
    (uROOT_NAME : PySem.W.nsIn K mainGlobals "ROOT_NAME" = some (some (.str ("" : Str) k_ROOT_NAME)))
    (uMOST_OPEN : PySem.W.nsIn K mainGlobals "MOST_OPEN" = some (some (.int 20 k_MOST_OPEN)))
    (uWALL_SORTS : PySem.W.nsIn K mainGlobals "WALL_SORTS" = some (some (.ref c_WALL_SORTS))) (wWALL_SORTS : K.lookup c_WALL_SORTS = some ⟨.type "tuple", d_WALL_SORTS, .seq #[.str ("room" : Str) k_WALL_SORTS_0, .str ("frame" : Str) k_WALL_SORTS_1] n_WALL_SORTS, sl_WALL_SORTS⟩)
    (zany : PySem.W.nsIn K mainGlobals "any" = some none) (zenumerate : PySem.W.nsIn K mainGlobals "enumerate" = some none) (zint : PySem.W.nsIn K mainGlobals "int" = some none) (zisinstance : PySem.W.nsIn K mainGlobals "isinstance" = some none) (zlen : PySem.W.nsIn K mainGlobals "len" = some none) (zlist : PySem.W.nsIn K mainGlobals "list" = some none) (zrange : PySem.W.nsIn K mainGlobals "range" = some none) (zsorted : PySem.W.nsIn K mainGlobals "sorted" = some none) (ztuple : PySem.W.nsIn K mainGlobals "tuple" = some none) :
    ∃ fd : FuncData, (∀ (s : Shared) (v : Value), BindsTo s fd ⟨[v], []⟩ [("_law_script", v)]) ∧ ∀ base : Heap, K.In base → base.Ns mainGlobals mg → FnOk l.prog w K mg base CX0 22 fa fd ["_law_script"] (sp_law K) := by
  have e := hfa.symm.trans (PySem.W.mg_of X G a29)
  have e : f29 = fa := by cases e; rfl
  subst e
  have F0 := fun_mk (st := s_row_of) l0 c0 k0
  have b0 := F0.binds (ps := ["rows", "name"]) fun _ _ _ _ _ _ us hl => match us, hl with | [_, _], _ => rfl
  have F1 := fun_mk (st := s_sort_of) l1 c1 k1
  have b1 := F1.binds (ps := ["book", "name"]) fun _ _ _ _ _ _ us hl => match us, hl with | [_, _], _ => rfl
  have F2 := fun_mk (st := s_is_wall) l2 c2 k2
  have b2 := F2.binds (ps := ["book", "name"]) fun _ _ _ _ _ _ us hl => match us, hl with | [_, _], _ => rfl
  have F3 := fun_mk (st := s_host_of) l3 c3 k3
  have b3 := F3.binds (ps := ["book", "name"]) fun _ _ _ _ _ _ us hl => match us, hl with | [_, _], _ => rfl
  have F4 := fun_mk (st := s_frame_of) l4 c4 k4
  have b4 := F4.binds (ps := ["book", "name"]) fun _ _ _ _ _ _ us hl => match us, hl with | [_, _], _ => rfl
  have F5 := fun_mk (st := s_belongs) l5 c5 k5
  have b5 := F5.binds (ps := ["book", "name", "frame"]) fun _ _ _ _ _ _ us hl => match us, hl with | [_, _, _], _ => rfl
  have F6 := fun_mk (st := s_straight_above) l6 c6 k6
  have b6 := F6.binds (ps := ["names"]) fun _ _ _ _ _ _ us hl => match us, hl with | [_], _ => rfl
  have F7 := fun_mk (st := s_near_of) l7 c7 k7
  have b7 := F7.binds (ps := ["book", "names"]) fun _ _ _ _ _ _ us hl => match us, hl with | [_, _], _ => rfl
  have F8 := fun_mk (st := s_share_a_name) l8 c8 k8
  have b8 := F8.binds (ps := ["names", "others"]) fun _ _ _ _ _ _ us hl => match us, hl with | [_, _], _ => rfl
  have F9 := fun_mk (st := s_closing) l9 c9 k9
  have b9 := F9.binds (ps := ["book", "names", "name"]) fun _ _ _ _ _ _ us hl => match us, hl with | [_, _, _], _ => rfl
  have F10 := fun_mk (st := s_opening) l10 c10 k10
  have b10 := F10.binds (ps := ["book", "names", "name"]) fun _ _ _ _ _ _ us hl => match us, hl with | [_, _, _], _ => rfl
  have F11 := fun_mk (st := s_wanted) l11 c11 k11
  have b11 := F11.binds (ps := ["book", "names", "name"]) fun _ _ _ _ _ _ us hl => match us, hl with | [_, _, _], _ => rfl
  have F12 := fun_mk (st := s_wanted_by_guest) l12 c12 k12
  have b12 := F12.binds (ps := ["book", "names", "name"]) fun _ _ _ _ _ _ us hl => match us, hl with | [_, _, _], _ => rfl
  have F13 := fun_mk (st := s_kept_by_shuts) l13 c13 k13
  have b13 := F13.binds (ps := ["book", "names", "name"]) fun _ _ _ _ _ _ us hl => match us, hl with | [_, _, _], _ => rfl
  have F14 := fun_mk (st := s_hosts_within) l14 c14 k14
  have b14 := F14.binds (ps := ["book", "name"]) fun _ _ _ _ _ _ us hl => match us, hl with | [_, _], _ => rfl
  have F15 := fun_mk (st := s_is_barred) l15 c15 k15
  have b15 := F15.binds (ps := ["book", "kept", "put"]) fun _ _ _ _ _ _ us hl => match us, hl with | [_, _, _], _ => rfl
  have F16 := fun_mk (st := s__law_cell_at) l16 c16 k16
  have b16 := F16.binds (ps := ["_law_script", "_law_k"]) fun _ _ _ _ _ _ us hl => match us, hl with | [_, _], _ => rfl
  have F17 := fun_mk (st := s__law_mixed) l17 c17 k17
  have b17 := F17.binds (ps := ["_law_cell", "_law_k"]) fun _ _ _ _ _ _ us hl => match us, hl with | [_, _], _ => rfl
  have F18 := fun_mk (st := s__law_letters) l18 c18 k18
  have b18 := F18.binds (ps := ["_law_number"]) fun _ _ _ _ _ _ us hl => match us, hl with | [_], _ => rfl
  have F19 := fun_mk (st := s__law_names) l19 c19 k19
  have b19 := F19.binds (ps := ["_law_cell"]) fun _ _ _ _ _ _ us hl => match us, hl with | [_], _ => rfl
  have F20 := fun_mk (st := s__law_sorts) l20 c20 k20
  have b20 := F20.binds (ps := ["_law_script", "_law_names_here", "_law_count"]) fun _ _ _ _ _ _ us hl => match us, hl with | [_, _, _], _ => rfl
  have F21 := fun_mk (st := s__law_book) l21 c21 k21
  have b21 := F21.binds (ps := ["_law_script"]) fun _ _ _ _ _ _ us hl => match us, hl with | [_], _ => rfl
  have F22 := fun_mk (st := s__law_row) l22 c22 k22
  have b22 := F22.binds (ps := ["_law_book_here", "_law_name"]) fun _ _ _ _ _ _ us hl => match us, hl with | [_, _], _ => rfl
  have F23 := fun_mk (st := s__law_frame) l23 c23 k23
  have b23 := F23.binds (ps := ["_law_book_here", "_law_name"]) fun _ _ _ _ _ _ us hl => match us, hl with | [_, _], _ => rfl
  have F24 := fun_mk (st := s__law_fence) l24 c24 k24
  have b24 := F24.binds (ps := ["_law_book_here", "_law_name"]) fun _ _ _ _ _ _ us hl => match us, hl with | [_, _], _ => rfl
  have F25 := fun_mk (st := s__law_near) l25 c25 k25
  have b25 := F25.binds (ps := ["_law_book_here", "_law_names_here"]) fun _ _ _ _ _ _ us hl => match us, hl with | [_, _], _ => rfl
  have F26 := fun_mk (st := s__law_may) l26 c26 k26
  have b26 := F26.binds (ps := ["_law_book_here", "_law_names_here", "_law_name"]) fun _ _ _ _ _ _ us hl => match us, hl with | [_, _, _], _ => rfl
  have F27 := fun_mk (st := s__law_stack) l27 c27 k27
  have b27 := F27.binds (ps := ["_law_script", "_law_start", "_law_book_here"]) fun _ _ _ _ _ _ us hl => match us, hl with | [_, _, _], _ => rfl
  have F28 := fun_mk (st := s__law_right) l28 c28 k28
  have b28 := F28.binds (ps := ["_law_book_here", "_law_names_here", "_law_row_here", "_law_found"]) fun _ _ _ _ _ _ us hl => match us, hl with | [_, _, _, _], _ => rfl
  have F29 := fun_mk (st := s_law) l29 c29 k29
  have b29 := F29.binds (ps := ["_law_script"]) fun _ _ _ _ _ _ us hl => match us, hl with | [_], _ => rfl
  let t : Adr := { a_row_of := f0, d_row_of := PySem.W.fnOf "row_of" "row_of" (defArgs s_row_of) (defBody s_row_of) (defScope s_row_of) .none kV0 dc0 pm0 an0 cd0 ct0, a_sort_of := f1, d_sort_of := PySem.W.fnOf "sort_of" "sort_of" (defArgs s_sort_of) (defBody s_sort_of) (defScope s_sort_of) .none kV1 dc1 pm1 an1 cd1 ct1, a_is_wall := f2, d_is_wall := PySem.W.fnOf "is_wall" "is_wall" (defArgs s_is_wall) (defBody s_is_wall) (defScope s_is_wall) .none kV2 dc2 pm2 an2 cd2 ct2, a_host_of := f3, d_host_of := PySem.W.fnOf "host_of" "host_of" (defArgs s_host_of) (defBody s_host_of) (defScope s_host_of) .none kV3 dc3 pm3 an3 cd3 ct3, a_frame_of := f4, d_frame_of := PySem.W.fnOf "frame_of" "frame_of" (defArgs s_frame_of) (defBody s_frame_of) (defScope s_frame_of) .none kV4 dc4 pm4 an4 cd4 ct4, a_belongs := f5, d_belongs := PySem.W.fnOf "belongs" "belongs" (defArgs s_belongs) (defBody s_belongs) (defScope s_belongs) .none kV5 dc5 pm5 an5 cd5 ct5, a_straight_above := f6, d_straight_above := PySem.W.fnOf "straight_above" "straight_above" (defArgs s_straight_above) (defBody s_straight_above) (defScope s_straight_above) .none kV6 dc6 pm6 an6 cd6 ct6, a_near_of := f7, d_near_of := PySem.W.fnOf "near_of" "near_of" (defArgs s_near_of) (defBody s_near_of) (defScope s_near_of) .none kV7 dc7 pm7 an7 cd7 ct7, a_share_a_name := f8, d_share_a_name := PySem.W.fnOf "share_a_name" "share_a_name" (defArgs s_share_a_name) (defBody s_share_a_name) (defScope s_share_a_name) .none kV8 dc8 pm8 an8 cd8 ct8, a_closing := f9, d_closing := PySem.W.fnOf "closing" "closing" (defArgs s_closing) (defBody s_closing) (defScope s_closing) .none kV9 dc9 pm9 an9 cd9 ct9, a_opening := f10, d_opening := PySem.W.fnOf "opening" "opening" (defArgs s_opening) (defBody s_opening) (defScope s_opening) .none kV10 dc10 pm10 an10 cd10 ct10, a_wanted := f11, d_wanted := PySem.W.fnOf "wanted" "wanted" (defArgs s_wanted) (defBody s_wanted) (defScope s_wanted) .none kV11 dc11 pm11 an11 cd11 ct11, a_wanted_by_guest := f12, d_wanted_by_guest := PySem.W.fnOf "wanted_by_guest" "wanted_by_guest" (defArgs s_wanted_by_guest) (defBody s_wanted_by_guest) (defScope s_wanted_by_guest) .none kV12 dc12 pm12 an12 cd12 ct12, a_kept_by_shuts := f13, d_kept_by_shuts := PySem.W.fnOf "kept_by_shuts" "kept_by_shuts" (defArgs s_kept_by_shuts) (defBody s_kept_by_shuts) (defScope s_kept_by_shuts) .none kV13 dc13 pm13 an13 cd13 ct13, a_hosts_within := f14, d_hosts_within := PySem.W.fnOf "hosts_within" "hosts_within" (defArgs s_hosts_within) (defBody s_hosts_within) (defScope s_hosts_within) .none kV14 dc14 pm14 an14 cd14 ct14, a_is_barred := f15, d_is_barred := PySem.W.fnOf "is_barred" "is_barred" (defArgs s_is_barred) (defBody s_is_barred) (defScope s_is_barred) .none kV15 dc15 pm15 an15 cd15 ct15, a__law_cell_at := f16, d__law_cell_at := PySem.W.fnOf "_law_cell_at" "_law_cell_at" (defArgs s__law_cell_at) (defBody s__law_cell_at) (defScope s__law_cell_at) .none kV16 dc16 pm16 an16 cd16 ct16, a__law_mixed := f17, d__law_mixed := PySem.W.fnOf "_law_mixed" "_law_mixed" (defArgs s__law_mixed) (defBody s__law_mixed) (defScope s__law_mixed) .none kV17 dc17 pm17 an17 cd17 ct17, a__law_letters := f18, d__law_letters := PySem.W.fnOf "_law_letters" "_law_letters" (defArgs s__law_letters) (defBody s__law_letters) (defScope s__law_letters) .none kV18 dc18 pm18 an18 cd18 ct18, a__law_names := f19, d__law_names := PySem.W.fnOf "_law_names" "_law_names" (defArgs s__law_names) (defBody s__law_names) (defScope s__law_names) .none kV19 dc19 pm19 an19 cd19 ct19, a__law_sorts := f20, d__law_sorts := PySem.W.fnOf "_law_sorts" "_law_sorts" (defArgs s__law_sorts) (defBody s__law_sorts) (defScope s__law_sorts) .none kV20 dc20 pm20 an20 cd20 ct20, a__law_book := f21, d__law_book := PySem.W.fnOf "_law_book" "_law_book" (defArgs s__law_book) (defBody s__law_book) (defScope s__law_book) .none kV21 dc21 pm21 an21 cd21 ct21, a__law_row := f22, d__law_row := PySem.W.fnOf "_law_row" "_law_row" (defArgs s__law_row) (defBody s__law_row) (defScope s__law_row) .none kV22 dc22 pm22 an22 cd22 ct22, a__law_frame := f23, d__law_frame := PySem.W.fnOf "_law_frame" "_law_frame" (defArgs s__law_frame) (defBody s__law_frame) (defScope s__law_frame) .none kV23 dc23 pm23 an23 cd23 ct23, a__law_fence := f24, d__law_fence := PySem.W.fnOf "_law_fence" "_law_fence" (defArgs s__law_fence) (defBody s__law_fence) (defScope s__law_fence) .none kV24 dc24 pm24 an24 cd24 ct24, a__law_near := f25, d__law_near := PySem.W.fnOf "_law_near" "_law_near" (defArgs s__law_near) (defBody s__law_near) (defScope s__law_near) .none kV25 dc25 pm25 an25 cd25 ct25, a__law_may := f26, d__law_may := PySem.W.fnOf "_law_may" "_law_may" (defArgs s__law_may) (defBody s__law_may) (defScope s__law_may) .none kV26 dc26 pm26 an26 cd26 ct26, a__law_stack := f27, d__law_stack := PySem.W.fnOf "_law_stack" "_law_stack" (defArgs s__law_stack) (defBody s__law_stack) (defScope s__law_stack) .none kV27 dc27 pm27 an27 cd27 ct27, a__law_right := f28, d__law_right := PySem.W.fnOf "_law_right" "_law_right" (defArgs s__law_right) (defBody s__law_right) (defScope s__law_right) .none kV28 dc28 pm28 an28 cd28 ct28, a_law := f29, d_law := PySem.W.fnOf "law" "law" (defArgs s_law) (defBody s_law) (defScope s_law) .none kV29 dc29 pm29 an29 cd29 ct29, v_NAME := .int 0 k_NAME, v_SORT := .int 1 k_SORT, v_HOST := .int 2 k_HOST, v_SHUTS := .int 3 k_SHUTS, v_BARS := .int 4 k_BARS, v_ROOT_NAME := .str ("" : Str) k_ROOT_NAME, v_MOST_OPEN := .int 20 k_MOST_OPEN, c_WALL_SORTS := c_WALL_SORTS }
  have T : Txt K mg t := ⟨F0, b0, PySem.W.mg_of X G a0, F1, b1, PySem.W.mg_of X G a1, F2, b2, PySem.W.mg_of X G a2, F3, b3, PySem.W.mg_of X G a3, F4, b4, PySem.W.mg_of X G a4, F5, b5, PySem.W.mg_of X G a5, F6, b6, PySem.W.mg_of X G a6, F7, b7, PySem.W.mg_of X G a7, F8, b8, PySem.W.mg_of X G a8, F9, b9, PySem.W.mg_of X G a9, F10, b10, PySem.W.mg_of X G a10, F11, b11, PySem.W.mg_of X G a11, F12, b12, PySem.W.mg_of X G a12, F13, b13, PySem.W.mg_of X G a13, F14, b14, PySem.W.mg_of X G a14, F15, b15, PySem.W.mg_of X G a15, F16, b16, PySem.W.mg_of X G a16, F17, b17, PySem.W.mg_of X G a17, F18, b18, PySem.W.mg_of X G a18, F19, b19, PySem.W.mg_of X G a19, F20, b20, PySem.W.mg_of X G a20, F21, b21, PySem.W.mg_of X G a21, F22, b22, PySem.W.mg_of X G a22, F23, b23, PySem.W.mg_of X G a23, F24, b24, PySem.W.mg_of X G a24, F25, b25, PySem.W.mg_of X G a25, F26, b26, PySem.W.mg_of X G a26, F27, b27, PySem.W.mg_of X G a27, F28, b28, PySem.W.mg_of X G a28, F29, b29, PySem.W.mg_of X G a29, PySem.W.mg_of X G uWALL_SORTS, fun _ => .inr ⟨_, _, _, wWALL_SORTS, rfl, rfl, by rw [sizeLine_eq]; show 2 ≤ _; decide, (.cons ⟨_, rfl⟩ (.cons ⟨_, rfl⟩ .nil))⟩, ⟨PySem.W.mg_of X G uNAME, ⟨_, rfl⟩⟩, ⟨PySem.W.mg_of X G uSORT, ⟨_, rfl⟩⟩, ⟨PySem.W.mg_of X G uHOST, ⟨_, rfl⟩⟩, ⟨PySem.W.mg_of X G uSHUTS, ⟨_, rfl⟩⟩, ⟨PySem.W.mg_of X G uBARS, ⟨_, rfl⟩⟩, ⟨PySem.W.mg_of X G uROOT_NAME, ⟨_, rfl⟩⟩, ⟨PySem.W.mg_of X G uMOST_OPEN, ⟨_, rfl⟩⟩, PySem.W.mg_none_of X G zany, PySem.W.mg_none_of X G zenumerate, PySem.W.mg_none_of X G zint, PySem.W.mg_none_of X G zisinstance, PySem.W.mg_none_of X G zlen, PySem.W.mg_none_of X G zlist, PySem.W.mg_none_of X G zrange, PySem.W.mg_none_of X G zsorted, PySem.W.mg_none_of X G ztuple⟩
  exact ⟨_, fun s v => .of_eq rfl, fun base _ _ => ok_law T⟩
theorem walk {l : PySem.W.OpenLaw} {q : Program} {loose : List Str} {XP : (Str → Option Value) → Heap → Prop} {as : List Addr} {z t : Nat} {d : DefRec} {K : Params → PySem.W.Frag} (hn : l.most = some 63) (hdf : d.params.defaults = [])
    (hk : ∀ P, as = (K P).map (·.1)) (h0 : 0 < t)
    (F : ∀ (w : World) (mg : Str → Option Value) (fa : Addr) (h : Heap), (K w.params).In h → h.Ns mainGlobals mg → mg d.name = some (.ref fa) →
      ∃ fd : FuncData, (∀ (s : Shared) (u : Value), BindsTo s fd ⟨[u], []⟩ [("_law_script", u)]) ∧ ∀ base : Heap, (K w.params).In base → base.Ns mainGlobals mg → FnOk l.prog w (K w.params) mg base CX0 22 fa fd ["_law_script"] (sp_law (K w.params))) :
    PySem.W.WalkX q loose XP (PySem.W.X.obsZ as) (PySem.W.X.valZ K z t) l.row.toRowW d [] (fun f vs => PySem.call f vs) :=
  L2.walk_of (n := 63) (k := 22) (x := "_law_script") (CX := fun _ => CX0) (sp := fun w => sp_law (K w.params)) hn (by decide) hdf ⟨rfl, by decide, by decide⟩ hk h0 F (fun _ _ a ns hl _ hS => ⟨a, ns, rfl, hS, hl, fun _ => rfl⟩) fun _ _ _ _ _ z => z
end My
open PySem PySem.W PyProof.Rows
set_option maxRecDepth 100000 in
set_option maxHeartbeats 0 in
theorem PySem.Challenge.cw_tagmend_k32_what_is_opened_may_stand_holds : PySem.Challenge.rw_tagmend_k32_what_is_opened_may_stand.Holds := by
  w_on; o_law; z_head; (case hw => w_witness2)
  k_fill
  refine My.walk (l := PySem.Challenge.rw_tagmend_k32_what_is_opened_may_stand) rfl rfl (fun _ => rfl) (by decide) ?F
  case F =>
    intro w mg fa h KX G hmg
    refine' My.all_mk KX G hmg ?a0 ?l0 ?c0 ?k0 ?a1 ?l1 ?c1 ?k1 ?a2 ?l2 ?c2 ?k2 ?a3 ?l3 ?c3 ?k3 ?a4 ?l4 ?c4 ?k4 ?a5 ?l5 ?c5 ?k5 ?a6 ?l6 ?c6 ?k6 ?a7 ?l7 ?c7 ?k7 ?a8 ?l8 ?c8 ?k8 ?a9 ?l9 ?c9 ?k9 ?a10 ?l10 ?c10 ?k10 ?a11 ?l11 ?c11 ?k11 ?a12 ?l12 ?c12 ?k12 ?a13 ?l13 ?c13 ?k13 ?a14 ?l14 ?c14 ?k14 ?a15 ?l15 ?c15 ?k15 ?a16 ?l16 ?c16 ?k16 ?a17 ?l17 ?c17 ?k17 ?a18 ?l18 ?c18 ?k18 ?a19 ?l19 ?c19 ?k19 ?a20 ?l20 ?c20 ?k20 ?a21 ?l21 ?c21 ?k21 ?a22 ?l22 ?c22 ?k22 ?a23 ?l23 ?c23 ?k23 ?a24 ?l24 ?c24 ?k24 ?a25 ?l25 ?c25 ?k25 ?a26 ?l26 ?c26 ?k26 ?a27 ?l27 ?c27 ?k27 ?a28 ?l28 ?c28 ?k28 ?a29 ?l29 ?c29 ?k29 ?uWALL_SORTS ?wWALL_SORTS ?uNAME ?uSORT ?uHOST ?uSHUTS ?uBARS ?uROOT_NAME ?uMOST_OPEN ?zany ?zenumerate ?zint ?zisinstance ?zlen ?zlist ?zrange ?zsorted ?ztuple
    (case a0 => k_is); (case l0 => k_is); (case c0 => k_is); (case k0 => k_is)
    (case a1 => k_is); (case l1 => k_is); (case c1 => k_is); (case k1 => k_is)
    (case a2 => k_is); (case l2 => k_is); (case c2 => k_is); (case k2 => k_is)
    (case a3 => k_is); (case l3 => k_is); (case c3 => k_is); (case k3 => k_is)
    (case a4 => k_is); (case l4 => k_is); (case c4 => k_is); (case k4 => k_is)
    (case a5 => k_is); (case l5 => k_is); (case c5 => k_is); (case k5 => k_is)
    (case a6 => k_is); (case l6 => k_is); (case c6 => k_is); (case k6 => k_is)
    (case a7 => k_is); (case l7 => k_is); (case c7 => k_is); (case k7 => k_is)
    (case a8 => k_is); (case l8 => k_is); (case c8 => k_is); (case k8 => k_is)
    (case a9 => k_is); (case l9 => k_is); (case c9 => k_is); (case k9 => k_is)
    (case a10 => k_is); (case l10 => k_is); (case c10 => k_is); (case k10 => k_is)
    (case a11 => k_is); (case l11 => k_is); (case c11 => k_is); (case k11 => k_is)
    (case a12 => k_is); (case l12 => k_is); (case c12 => k_is); (case k12 => k_is)
    (case a13 => k_is); (case l13 => k_is); (case c13 => k_is); (case k13 => k_is)
    (case a14 => k_is); (case l14 => k_is); (case c14 => k_is); (case k14 => k_is)
    (case a15 => k_is); (case l15 => k_is); (case c15 => k_is); (case k15 => k_is)
    (case a16 => k_is); (case l16 => k_is); (case c16 => k_is); (case k16 => k_is)
    (case a17 => k_is); (case l17 => k_is); (case c17 => k_is); (case k17 => k_is)
    (case a18 => k_is); (case l18 => k_is); (case c18 => k_is); (case k18 => k_is)
    (case a19 => k_is); (case l19 => k_is); (case c19 => k_is); (case k19 => k_is)
    (case a20 => k_is); (case l20 => k_is); (case c20 => k_is); (case k20 => k_is)
    (case a21 => k_is); (case l21 => k_is); (case c21 => k_is); (case k21 => k_is)
    (case a22 => k_is); (case l22 => k_is); (case c22 => k_is); (case k22 => k_is)
    (case a23 => k_is); (case l23 => k_is); (case c23 => k_is); (case k23 => k_is)
    (case a24 => k_is); (case l24 => k_is); (case c24 => k_is); (case k24 => k_is)
    (case a25 => k_is); (case l25 => k_is); (case c25 => k_is); (case k25 => k_is)
    (case a26 => k_is); (case l26 => k_is); (case c26 => k_is); (case k26 => k_is)
    (case a27 => k_is); (case l27 => k_is); (case c27 => k_is); (case k27 => k_is)
    (case a28 => k_is); (case l28 => k_is); (case c28 => k_is); (case k28 => k_is)
    (case a29 => k_is); (case l29 => k_is); (case c29 => k_is); (case k29 => k_is)
    (case uWALL_SORTS => k_is); (case wWALL_SORTS => k_is); (case uNAME => k_is); (case uSORT => k_is)
    (case uHOST => k_is); (case uSHUTS => k_is); (case uBARS => k_is); (case uROOT_NAME => k_is)
    (case uMOST_OPEN => k_is); (case zany => k_is); (case zenumerate => k_is); (case zint => k_is)
    (case zisinstance => k_is); (case zlen => k_is); (case zlist => k_is); (case zrange => k_is)
    (case zsorted => k_is); (case ztuple => k_is)

