import PyProof.Rows.All
import Wide.All
import OpenK.AllK
import Wide.FinOn
import Lean
import PyProof.EqAt
import PyProof.EqKinds
import PyProof.TupleCall
import PyProof.NeData
import PyProof.Rows.StrJoin2
import PyProof.Rows.SortStr
import PyProof.Rows.SortWalk
import KE.KRevIter
import PyProof.Rows.RuleN_isinstance
import PyProof.StrReplace2
import PyProof.StrWalks
import PyProof.Draws
import PyProof.EnumMake
import PyProof.Rows.StrNews2
import PyProof.StrLawsTight
import PyProof.StrLawsReplace
import PyProof.ConsumeWalk
import PyProof.StrLawsFrom
import PySem.Challenge.RW_tagmend_k30_what_closings_close
set_option Elab.async false
set_option linter.all false
set_option maxRecDepth 100000
/-! THE HAND LAYER, for ints, bools, texts, own classes, LISTS and tuples (index, slices, in, append, pop ..), calls, loops. Paste it whole ahead of your own text; what your proof does not reach may be deleted. -/
namespace L2
open PySem PySem.Spec PyProof.Rows

/-- a key: an int or a str -/
abbrev Key := Sum Int Str
def keyIs : Key → Value → Bool
  | .inl k, v => Value.isInt k v
  | .inr x, v => Value.isStrOf x v
def keyH (w : World) : Key → Int
  | .inl k => hashInt k
  | .inr x => hashStr w x
theorem keyIs_shape : ∀ {k : Key} {v : Value}, keyIs k v = true → (∃ i t, k = Sum.inl i ∧ v = Value.int i t) ∨ (∃ x t, k = Sum.inr x ∧ v = Value.str x t)
  | .inl i, v, h => by
    obtain ⟨t, e⟩ := Value.isInt_shape (k := i) (v := v) h
    exact .inl ⟨i, t, rfl, e⟩
  | .inr x, v, h => by
    obtain ⟨t, e⟩ := Value.isStrOf_shape (x := x) (v := v) h
    exact .inr ⟨x, t, rfl, e⟩
theorem keyIs_int (i : Int) (t : Tok) : keyIs (.inl i) (.int i t) = true := by simp [keyIs, Value.isInt]
theorem keyIs_str (x : Str) (t : Tok) : keyIs (.inr x) (.str x t) = true := by simp [keyIs, Value.isStrOf]
theorem key_ll (a b : Int) : decide ((Sum.inl a : Key) = Sum.inl b) = (a == b) := by
  by_cases e : a = b
  · subst e; simp
  · have h : ¬ (Sum.inl a : Key) = Sum.inl b := fun q => e (Sum.inl.inj q)
    rw [decide_eq_false h]
    exact (beq_eq_false_iff_ne.mpr e).symm
theorem key_rr (a b : Str) : decide ((Sum.inr a : Key) = Sum.inr b) = decide (a = b) := by
  by_cases e : a = b
  · subst e; simp
  · have h : ¬ (Sum.inr a : Key) = Sum.inr b := fun q => e (Sum.inr.inj q)
    rw [decide_eq_false h, decide_eq_false e]
theorem key_lr (a : Int) (b : Str) : decide ((Sum.inl a : Key) = Sum.inr b) = false := decide_eq_false (fun q => nomatch q)
theorem key_rl (a : Str) (b : Int) : decide ((Sum.inr a : Key) = Sum.inl b) = false := decide_eq_false (fun q => nomatch q)

def mixKind (prog : Program) (w : World) : PySem.KeyKind prog w Key where
  is := keyIs
  hash := keyH w
  inj := fun v a b ha hb => by
    rcases keyIs_shape ha with ⟨i, t, rfl, rfl⟩ | ⟨x, t, rfl, rfl⟩
    · rcases keyIs_shape hb with ⟨j, u, rfl, e⟩ | ⟨y, u, rfl, e⟩
      · injection e with e1 _; rw [e1]
      · exact nomatch e
    · rcases keyIs_shape hb with ⟨j, u, rfl, e⟩ | ⟨y, u, rfl, e⟩
      · exact nomatch e
      · injection e with e1 _; rw [e1]
  byValue := fun k v h => by
    rcases keyIs_shape h with ⟨i, t, rfl, rfl⟩ | ⟨x, t, rfl, rfl⟩ <;> rfl
  pyHash := fun hv h => by
    rcases keyIs_shape hv with ⟨i, t, rfl, rfl⟩ | ⟨x, t, rfl, rfl⟩
    · exact wpAny_pyHash_int h
    · exact wpAny_pyHash_str h
  eqBool := fun hu hv h => by
    rcases keyIs_shape hu with ⟨i, t, rfl, rfl⟩ | ⟨x, t, rfl, rfl⟩
    · rcases keyIs_shape hv with ⟨j, u, rfl, rfl⟩ | ⟨y, u, rfl, rfl⟩
      · rw [key_ll] at h; exact wpAny_eqBool_int h
      · rw [key_lr] at h; exact SeqAt.EqAt.int_str i t y u _ _ _ _ h
    · rcases keyIs_shape hv with ⟨j, u, rfl, rfl⟩ | ⟨y, u, rfl, rfl⟩
      · rw [key_rl] at h; exact SeqAt.EqAt.str_int x t j u _ _ _ _ h
      · rw [key_rr] at h; exact wpAny_eqBool_str h
  «strs» := fun k x t v h => by
    rcases keyIs_shape h with ⟨i, u, rfl, e⟩ | ⟨y, u, rfl, e⟩
    · exact nomatch e
    · injection e with e1 _
      subst e1
      cases v <;> rfl

theorem mixKind_is (prog : Program) (w : World) (k : Key) (v : Value) : (mixKind prog w).is k v = keyIs k v := rfl
theorem mixKind_int (prog : Program) (w : World) (i : Int) (t : Tok) : (mixKind prog w).is (.inl i) (.int i t) = true := keyIs_int i t
theorem mixKind_str (prog : Program) (w : World) (x : Str) (t : Tok) : (mixKind prog w).is (.inr x) (.str x t) = true := keyIs_str x t
end L2

namespace L2
open PySem PySem.Spec PyProof.Rows

/-- a value, without the heap -/
inductive V where
  | non | bl (b : Bool) | int (i : Int) | str (x : Str) | byt (b : Array UInt8) | flt (b : UInt64) | ref (a : Addr) | ty (n : String)
  deriving DecidableEq

def RelV : V → Value → Prop
  | .non, u => u = Value.none
  | .bl b, u => u = Value.bool b
  | .int i, u => ∃ t, u = Value.int i t
  | .str x, u => ∃ t, u = Value.str x t
  | .byt b, u => ∃ t, u = Value.bytes b t
  | .flt b, u => ∃ t, u = Value.float b t
  | .ref a, u => u = Value.ref a
  | .ty n, u => u = Value.type n

abbrev Vals : List V → List Value → Prop := Paired RelV
theorem Vals.length {xs : List V} {us : List Value} (r : Vals xs us) : xs.length = us.length := Paired.length r
theorem Vals.get : ∀ {xs : List V} {us : List Value} {i : Nat} {x : V}, Vals xs us → xs[i]? = some x → ∃ u, us[i]? = some u ∧ RelV x u
  | _, _, _, _, .nil, e => by simp at e
  | _, _, 0, _, .cons r _, e => by simp at e; subst e; exact ⟨_, rfl, r⟩
  | _, _, i + 1, x, .cons _ t, e => by
    obtain ⟨u, h1, h2⟩ := Vals.get (i := i) (x := x) t (by simpa using e)
    exact ⟨u, by simpa using h1, h2⟩
theorem Vals.set {x : V} {u : Value} (r : RelV x u) : ∀ {xs : List V} {us : List Value} (i : Nat), Vals xs us → Vals (xs.set i x) (us.set i u)
  | _, _, _, .nil => .nil
  | _, _, 0, .cons _ t => .cons r t
  | _, _, i + 1, .cons q t => .cons q (Vals.set r i t)
theorem Vals.append : ∀ {xs ys : List V} {us ws : List Value}, Vals xs us → Vals ys ws → Vals (xs ++ ys) (us ++ ws)
  | _, _, _, _, .nil, s => s
  | _, _, _, _, .cons r t, s => .cons r (Vals.append t s)
theorem Vals.take : ∀ {xs : List V} {us : List Value} (n : Nat), Vals xs us → Vals (xs.take n) (us.take n)
  | _, _, 0, _ => .nil
  | _, _, _ + 1, .nil => .nil
  | _, _, n + 1, .cons r t => .cons r (Vals.take n t)
theorem Vals.drop : ∀ {xs : List V} {us : List Value} (n : Nat), Vals xs us → Vals (xs.drop n) (us.drop n)
  | _, _, 0, r => r
  | _, _, _ + 1, .nil => .nil
  | _, _, n + 1, .cons _ t => Vals.drop n t
theorem Vals.none_of : ∀ {xs : List V} {us : List Value} {i : Nat}, Vals xs us → xs[i]? = none → us[i]? = none := fun {xs us i} r e => by
  have h1 := r.length
  have h2 : xs.length ≤ i := List.getElem?_eq_none_iff.mp e
  exact List.getElem?_eq_none_iff.mpr (by omega)

def RelO : Option V → Option Value → Prop
  | some v, some u => RelV v u
  | none, none => True
  | _, _ => False
def KV {κ : Type} : List (κ × V) → List (κ × Value) → Prop := Paired fun (p : κ × V) (q : κ × Value) => p.1 = q.1 ∧ RelV p.2 q.2

/-- a key of a dict (00_mix): an int or a text -/
def kV : Key → V
  | .inl i => .int i
  | .inr x => .str x

/-- what stands at a tracked address -/
inductive HO where
  /-- a list -/
  | lst (xs : List V)
  /-- a tuple (never changes) -/
  | tup (xs : List V)
  /-- a dict whose keys are ints and texts; one whose keys are tuples of ints and texts (the empty one is both) -/
  | dK (kvs : List (Key × V)) | dT (kvs : List (List Key × V))
  /-- a set of ints: its members, its size -/
  | set (S : Int → Bool) (n : Nat)
  /-- an instance of the class at C, its dict at dx, its attributes -/
  | ins (C dx : Addr) (fs : List (Str × V))
  /-- the dict of the instance at x -/
  | own (x : Addr)
  /-- the dict of an exception -/
  | xd (fs : List (Str × V))
  /-- a bound method, f of x -/
  | met (f x : Addr)
  /-- a range object lo, lo + 1, .. below hi -/
  | rng (lo hi : Int)
  /-- a thing that is known to the object (the script; a dict while a loop walks it): read, never written while it is so -/
  | frz (o : Obj) (u : HO)
  /-- a code object's table -/
  | tbl (ps : Array Value)
  /-- any other thing, by what is true of its one object (a def of one's own: SetO a S n := HO.ext fun h => ..) -/
  | ext (φ : Heap → Prop)

abbrev Hp := Addr → Option HO
def upd (H : Hp) (a : Addr) (o : HO) : Hp := fun b => if b = a then some o else H b
theorem upd_same {H : Hp} {a : Addr} {o : HO} : upd H a o a = some o := by unfold upd; rw [if_pos rfl]
theorem upd_ne {H : Hp} {a b : Addr} {o : HO} (h : b ≠ a) : upd H a o b = H b := by unfold upd; rw [if_neg h]
theorem upd_upd {H : Hp} {a : Addr} {o u : HO} : upd (upd H a o) a u = upd H a u := by
  funext b; unfold upd; split <;> rfl
/-- two objects of different content stand apart -/
theorem ne_of {H : Hp} {a b : Addr} {o u : HO} (h : H a = some o) (h' : H b = some u) (d : o ≠ u) : a ≠ b := by
  intro e; subst e; rw [h] at h'; exact d (Option.some.inj h')
theorem ne_of_none {H : Hp} {a b : Addr} {o : HO} (h : H a = some o) (h' : H b = none) : a ≠ b := by
  intro e; subst e; rw [h] at h'; cases h'

section
variable (P : Program) (w : World)
def ObjOk (H : Hp) (h : Heap) (a : Addr) : HO → Prop
  | .lst xs => xs.length ≤ sizeLine ∧ ∃ (its : List Value) (n : Nat), Vals xs its ∧ h.get? a = some { cls := .type "list", data := .seq its.toArray n }
  | .tup xs => xs.length ≤ sizeLine ∧ ∃ its : List Value, Vals xs its ∧ IsTup h a its.toArray
  | .dK kvs => kvs.length ≤ sizeLine ∧ (a == sysModules) = false ∧ ∃ vs, KV kvs vs ∧ h.DictOf (mixKind P w) a vs
  | .dT kvs => kvs.length ≤ sizeLine ∧ (a == sysModules) = false ∧ ∃ xs : List (List Key × Addr × Value),
      Paired (fun (p : List Key × V) (q : List Key × Addr × Value) => p.1 = q.1 ∧ H q.2.1 = some (.tup (p.1.map kV)) ∧ RelV p.2 q.2.2) kvs xs ∧
      ∃ o es ep, h.get? a = some o ∧ o.ExactDict ∧ o.data = .dict es ep ∧ es.toList = xs.map (entryOfKey (tupleKind (mixKind P w))) ∧ (xs.map (·.1)).Nodup
  | .set S n => h.SetOf (intKind P w) a S n
  | .ins C dx fs => H dx = some (.own a) ∧ fs.length ≤ 1000 ∧ dx ≠ a ∧ h.get? a = some (PySem.W.instObj C dx) ∧
      ∃ mA, h.Ns1 dx mA ∧ (∀ f, RelO (fs.lookup f) (mA f)) ∧ PySem.Within mA (fs.map (·.1))
  | .own _ => ∃ o, h.get? a = some o
  | .xd fs => ∃ mA, h.Ns1 a mA ∧ ∀ f, RelO (fs.lookup f) (mA f)
  | .rng lo hi => ∃ t u v, h.get? a = some { cls := .type "range", data := .fields #[.int lo t, .int hi u, .int 1 v] }
  | .frz o u => h.get? a = some o ∧ ObjOk H h a u
  | .tbl ps => h.get? a = some { cls := .none, data := .fields ps }
  | .met f x => h.get? a = some (PySem.W.methodObj (.ref f) (.ref x))
  | .ext φ => φ h ∧ (∃ o, h.get? a = some o) ∧ ∀ h1 h2 : Heap, φ h1 → (∀ o, h1.get? a = some o → h2.get? a = some o) → φ h2
/-- the abstract heap is held -/
def HOk (H : Hp) (h : Heap) : Prop := ∀ a o, H a = some o → ObjOk P w H h a o
end

section
variable {P : Program} {w : World} {H H' : Hp} {h h' : Heap} {a : Addr} {o : HO}
theorem ObjOk.lt (x : ObjOk P w H h a o) : a < h.objs.size := by
  cases o with
  | lst xs => obtain ⟨_, _, _, _, e⟩ := x; exact Heap.lt_size e
  | tup xs => obtain ⟨_, _, _, p⟩ := x; exact p.lt
  | dK kvs => obtain ⟨_, _, _, _, o, _, _, e, _⟩ := x; exact Heap.lt_size e
  | dT kvs => obtain ⟨_, _, _, _, o, _, _, e, _⟩ := x; exact Heap.lt_size e
  | set S n => obtain ⟨o, _, _, _, e, _⟩ := x; exact Heap.lt_size e
  | ins C dx fs => obtain ⟨_, _, _, e, _⟩ := x; exact Heap.lt_size e
  | own y => obtain ⟨_, e⟩ := x; exact Heap.lt_size e
  | xd fs => obtain ⟨_, ⟨_, _, _, e, _⟩, _⟩ := x; exact Heap.lt_size e
  | rng lo hi => obtain ⟨_, _, _, e⟩ := x; exact Heap.lt_size e
  | frz ob u => obtain ⟨e, _⟩ := x; exact Heap.lt_size e
  | tbl ps => exact Heap.lt_size (show h.get? a = some _ from x)
  | met f y => exact Heap.lt_size (show h.get? a = some _ from x)
  | ext φ => obtain ⟨_, ⟨_, e⟩, _⟩ := x; exact Heap.lt_size e
theorem Paired.mapP {α β : Type} {F G : α → β → Prop} : ∀ {l₁ : List α} {l₂ : List β}, Paired F l₁ l₂ → (∀ a b, F a b → G a b) → Paired G l₁ l₂
  | _, _, .nil, _ => .nil
  | _, _, .cons r t, f => .cons (f _ _ r) (Paired.mapP t f)
theorem Paired.imp' {α β : Type} {F G : α → β → Prop} (f : ∀ a b, F a b → G a b) {l₁ : List α} {l₂ : List β} (r : Paired F l₁ l₂) : Paired G l₁ l₂ := Paired.mapP r f
/-- what an object's description leans on: its own object, its own dict, the tuples -/
theorem ObjOk.stay (x : ObjOk P w H h a o) (k : ∀ b u, (b = a ∨ H b = some (.own a)) → h.get? b = some u → h'.get? b = some u)
    (ho : ∀ b, H b = some (.own a) → H' b = some (.own a)) (ht : ∀ b xs, H b = some (.tup xs) → H' b = some (.tup xs)) : ObjOk P w H' h' a o := by
  induction o with
  | lst xs => obtain ⟨z, its, n, r, e⟩ := x; exact ⟨z, its, n, r, k _ _ (.inl rfl) e⟩
  | tup xs => obtain ⟨z, its, r, ob, e, c⟩ := x; exact ⟨z, its, r, ob, k _ _ (.inl rfl) e, c⟩
  | dK kvs => obtain ⟨z, y, vs, r, ob, es, ep, e, c⟩ := x; exact ⟨z, y, vs, r, ob, es, ep, k _ _ (.inl rfl) e, c⟩
  | dT kvs =>
    obtain ⟨z, y, xs, r, ob, es, ep, e, c⟩ := x
    exact ⟨z, y, xs, Paired.mapP r fun p q z => ⟨z.1, ht _ _ z.2.1, z.2.2⟩, ob, es, ep, k _ _ (.inl rfl) e, c⟩
  | set S n => obtain ⟨ob, es, ep, t, e, c⟩ := x; exact ⟨ob, es, ep, t, k _ _ (.inl rfl) e, c⟩
  | ins C dx fs =>
    obtain ⟨d, z, ne, e, mA, ⟨od, es, ep, e2, c⟩, r⟩ := x
    exact ⟨ho _ d, z, ne, k _ _ (.inl rfl) e, mA, ⟨od, es, ep, k _ _ (.inr d) e2, c⟩, r⟩
  | own y => obtain ⟨ob, e⟩ := x; exact ⟨ob, k _ _ (.inl rfl) e⟩
  | xd fs => obtain ⟨mA, ⟨od, es, ep, e, c⟩, r⟩ := x; exact ⟨mA, ⟨od, es, ep, k _ _ (.inl rfl) e, c⟩, r⟩
  | rng lo hi => obtain ⟨t, u, v, e⟩ := x; exact ⟨t, u, v, k _ _ (.inl rfl) e⟩
  | frz ob u ih => obtain ⟨e, q⟩ := x; exact ⟨k _ _ (.inl rfl) e, ih q⟩
  | tbl ps =>
    have e : h.get? a = some { cls := .none, data := .fields ps } := x
    show h'.get? a = some { cls := .none, data := .fields ps }
    exact k a _ (.inl rfl) e
  | met f y =>
    have e : h.get? a = some (PySem.W.methodObj (.ref f) (.ref y)) := x
    show h'.get? a = some (PySem.W.methodObj (.ref f) (.ref y))
    exact k a _ (.inl rfl) e
  | ext φ => obtain ⟨p, ⟨o, e⟩, st⟩ := x; exact ⟨st _ _ p fun o q => k _ _ (.inl rfl) q, ⟨o, k _ _ (.inl rfl) e⟩, st⟩
theorem HOk.lt (x : HOk P w H h) (e : H a = some o) : a < h.objs.size := (x a o e).lt
theorem HOk.fresh (x : HOk P w H h) (e : h.objs.size ≤ a) : H a = none := by
  cases q : H a with
  | none => rfl
  | some u => exact absurd (Nat.lt_of_lt_of_le (x.lt q) e) (Nat.lt_irrefl _)
/-- every object of the heap is kept -/
theorem HOk.kept (x : HOk P w H h) (k : ∀ b u, h.get? b = some u → h'.get? b = some u) : HOk P w H h' := fun a o e =>
  (x a o e).stay (fun b u _ q => k b u q) (fun _ q => q) fun _ _ q => q
/-- a new object is laid and tracked -/
theorem HOk.laid (x : HOk P w H h) (k : ∀ b u, h.get? b = some u → h'.get? b = some u) (hp : h.objs.size ≤ a) (new : ObjOk P w (upd H a o) h' a o) : HOk P w (upd H a o) h' := fun b u e => by
  have hn := x.fresh hp
  by_cases hb : b = a
  · subst hb; rw [upd_same] at e; cases e; exact new
  · rw [upd_ne hb] at e
    exact (x b u e).stay (fun c v _ q => k c v q) (fun c q => by rw [upd_ne (ne_of_none q hn)]; exact q) fun c xs q => by rw [upd_ne (ne_of_none q hn)]; exact q
end

/-- what may be read as u: it is u, or a known u -/
def Rd (H : Hp) (a : Addr) (u : HO) : Prop := H a = some u ∨ ∃ o, H a = some (.frz o u)
theorem Rd.of {H : Hp} {a : Addr} {u : HO} (h : H a = some u) : Rd H a u := .inl h
theorem Rd.ok {P : Program} {w : World} {H : Hp} {h : Heap} {a : Addr} {u : HO} (r : Rd H a u) (x : HOk P w H h) : ObjOk P w H h a u := by
  rcases r with r | ⟨o, r⟩
  · exact x a u r
  · obtain ⟨_, q⟩ := x a _ r
    exact q
/-- what may be written -/
def Mut : Option HO → Prop
  | some (.lst _) => True
  | some (.dK _) => True
  | some (.dT _) => True
  | some (.set _ _) => True
  | some (.ins _ _ _) => True
  | some (.ext _) => True
  | _ => False
section
variable {P : Program} {w : World} {H : Hp} {h h' : Heap} {x e : Addr} {o' : HO}
/-- the object at e is changed: x itself, or the dict of the instance x -/
theorem HOk.write (ok : HOk P w H h) (mu : Mut (H x)) (he : e = x ∨ H e = some (.own x)) (k : ∀ b u, b ≠ e → h.get? b = some u → h'.get? b = some u) (heo : ∃ u, h'.get? e = some u)
    (new : ObjOk P w (upd H x o') h' x o') : HOk P w (upd H x o') h' := fun b u q => by
  have nown : ∀ c y, H c = some (.own y) → c ≠ x := fun c y r z => by subst z; rw [r] at mu; exact mu
  have ntup : ∀ c xs, H c = some (.tup xs) → c ≠ x := fun c xs r z => by subst z; rw [r] at mu; exact mu
  by_cases hb : b = x
  · subst hb; rw [upd_same] at q; cases q; exact new
  · rw [upd_ne hb] at q
    by_cases hbe : b = e
    · have q' : H b = some (.own x) := by
        rcases he with z | z
        · exact absurd (hbe.trans z) hb
        · rw [hbe]; exact z
      rw [q] at q'; cases q'
      obtain ⟨v, hv⟩ := heo
      exact ⟨v, by rw [hbe]; exact hv⟩
    · refine (ok b u q).stay (fun c v hc r => k c v ?_ r) (fun c r => by rw [upd_ne (nown c b r)]; exact r) fun c xs r => by rw [upd_ne (ntup c xs r)]; exact r
      rcases hc with rfl | hc
      · exact hbe
      · rintro rfl
        rcases he with z | z
        · exact nown c b hc z
        · rw [hc] at z; cases z; exact hb rfl
end

/-! ### kept unless tracked; of the frames at fs (the callers') the slots may change (an exception that passes writes there); of the records at ex (iterators) nothing is said -/
structure Un (fs ex : List Addr) (H H' : Hp) (h h' : Heap) : Prop where
  keep : ∀ b o, h.get? b = some o → H b = none → b ∉ fs → b ∉ ex → h'.get? b = some o
  slot : ∀ b o, h.get? b = some o → H b = none → b ∈ fs → b ∉ ex → ∃ sl, h'.get? b = some { o with slots := sl }
  free : ∀ b o, h.get? b = some o → H b = none → b ∉ ex → H' b = none
  there : ∀ b o, h.get? b = some o → b ∉ ex → ∃ o', h'.get? b = some o'
  tups : ∀ b xs, H b = some (.tup xs) → H' b = some (.tup xs)
  frzs : ∀ b o u, H b = some (.frz o u) → H' b = some (.frz o u)
  tbls : ∀ b ps, H b = some (.tbl ps) → ∃ more, H' b = some (.tbl (ps ++ more))
section
variable {fs fs' ex ex' : List Addr} {H H1 H2 : Hp} {h h1 h2 h' : Heap} {a x e : Addr} {o : HO}
theorem Un.any (u : Un fs ex H H1 h h1) {b : Addr} {ob : Obj} (q : h.get? b = some ob) (n : H b = none) (hx : b ∉ ex) : ∃ sl, h1.get? b = some { ob with slots := sl } := by
  by_cases hb : b ∈ fs
  · exact u.slot b ob q n hb hx
  · exact ⟨ob.slots, u.keep b ob q n hb hx⟩
theorem Un.trans (a : Un fs ex H H1 h h1) (b : Un fs ex H1 H2 h1 h2) : Un fs ex H H2 h h2 where
  keep := fun c ob q n hc hx => b.keep c ob (a.keep c ob q n hc hx) (a.free c ob q n hx) hc hx
  slot := fun c ob q n hc hx => by
    obtain ⟨sl, e1⟩ := a.slot c ob q n hc hx
    obtain ⟨sl', e2⟩ := b.slot c _ e1 (a.free c ob q n hx) hc hx
    exact ⟨sl', e2⟩
  free := fun c ob q n hx => by
    obtain ⟨o', e1⟩ := a.there c ob q hx
    exact b.free c o' e1 (a.free c ob q n hx) hx
  there := fun c ob q hx => by
    obtain ⟨o', e1⟩ := a.there c ob q hx
    exact b.there c o' e1 hx
  tups := fun c xs q => b.tups c xs (a.tups c xs q)
  frzs := fun c ob xs q => b.frzs c ob xs (a.frzs c ob xs q)
  tbls := fun c ps q => by
    obtain ⟨m1, e1⟩ := a.tbls c ps q
    obtain ⟨m2, e2⟩ := b.tbls c _ e1
    exact ⟨m1 ++ m2, by rw [e2, Array.append_assoc]⟩
theorem Un.kept (k : ∀ b u, h.get? b = some u → h'.get? b = some u) : Un fs ex H H h h' :=
  ⟨fun b ob q _ _ _ => k b ob q, fun b ob q _ _ _ => ⟨ob.slots, k b ob q⟩, fun _ _ _ n _ => n, fun b ob q _ => ⟨ob, k b ob q⟩, fun _ _ q => q, fun _ _ _ q => q, fun _ ps q => ⟨#[], by rw [q]; simp⟩⟩
theorem Un.refl : Un fs ex H H h h := Un.kept fun _ _ q => q
theorem Un.laid (k : ∀ b u, h.get? b = some u → h'.get? b = some u) (hp : h.objs.size ≤ a) (hn : H a = none) : Un fs ex H (upd H a o) h h' where
  keep := fun b u q _ _ _ => k b u q
  slot := fun b u q _ _ _ => ⟨u.slots, k b u q⟩
  free := fun b u q n _ => by rw [upd_ne (Nat.ne_of_lt (Nat.lt_of_lt_of_le (Heap.lt_size q) hp))]; exact n
  there := fun b u q _ => ⟨u, k b u q⟩
  tups := fun b xs q => by rw [upd_ne (ne_of_none q hn)]; exact q
  frzs := fun b u xs q => by rw [upd_ne (ne_of_none q hn)]; exact q
  tbls := fun b ps q => ⟨#[], by rw [upd_ne (ne_of_none q hn), q]; simp⟩
theorem Un.write (mu : Mut (H x)) (he : e = x ∨ H e = some (.own x)) (k : ∀ b u, b ≠ e → h.get? b = some u → h'.get? b = some u) (heo : ∃ u, h'.get? e = some u) : Un fs ex H (upd H x o) h h' := by
  have hx : ∀ b, H b = none → b ≠ x := fun b n z => by subst z; rw [n] at mu; exact mu
  have hb : ∀ b, H b = none → b ≠ e := fun b n z => by
    subst z
    rcases he with r | r
    · exact hx b n r
    · rw [n] at r; cases r
  have hm : ∀ b u, H b = some u → ¬ Mut (some u) → b ≠ x := fun b u q nm z => by subst z; rw [q] at mu; exact nm mu
  refine ⟨fun b u q n _ _ => k b u (hb b n) q, fun b u q n _ _ => ⟨u.slots, k b u (hb b n) q⟩, fun b u q n _ => by rw [upd_ne (hx b n)]; exact n, fun b u q _ => ?_,
    fun b xs q => by rw [upd_ne (hm b _ q fun z => z)]; exact q, fun b u xs q => by rw [upd_ne (hm b _ q fun z => z)]; exact q, fun b ps q => ⟨#[], by rw [upd_ne (hm b _ q fun z => z), q]; simp⟩⟩
  by_cases hbe : b = e
  · subst hbe; exact heo
  · exact ⟨u, k b u hbe q⟩
theorem Un.mono (u : Un fs ex H H1 h h1) (hs : ∀ b ∈ fs, b ∈ fs') (hx : ∀ b ∈ ex, b ∈ ex') : Un fs' ex' H H1 h h1 :=
  ⟨fun b ob q n hb he => u.keep b ob q n (fun z => hb (hs b z)) fun z => he (hx b z), fun _ _ q n _ he => u.any q n fun z => he (hx _ z), fun b ob q n he => u.free b ob q n fun z => he (hx b z), fun b ob q he => u.there b ob q fun z => he (hx b z), u.tups, u.frzs, u.tbls⟩
end

/-! ### the heap without what is tracked -/
def trk (h : Heap) (H : Hp) : List Addr := (List.range h.objs.size).filter fun a => (H a).isSome
def hidT (h : Heap) (H : Hp) : Heap := PySem.W.hideAll h (trk h H)
theorem hidT_size (h : Heap) (H : Hp) : (hidT h H).objs.size = h.objs.size := PySem.W.hideAll_size _ _
theorem hidT_get {h : Heap} {H : Hp} {b : Addr} {o : Obj} (e : h.get? b = some o) (n : H b = none) : (hidT h H).get? b = some o :=
  PySem.W.hideAll_get _ e fun hm => by
    have q : (H b).isSome = true := (List.mem_filter.mp hm).2
    rw [n] at q; simp at q
theorem of_hidT {h : Heap} {H : Hp} {b : Addr} {o : Obj} (e : (hidT h H).get? b = some o) : h.get? b = some o ∧ H b = none := by
  have e' : h.get? b = some o := PySem.W.of_hideAll (trk h H) e
  refine ⟨e', ?_⟩
  cases q : H b with
  | none => rfl
  | some x =>
    have hm : b ∈ trk h H := List.mem_filter.mpr ⟨List.mem_range.mpr (Heap.lt_size e'), by simp [q]⟩
    have z : (hidT h H).get? b = none := PySem.W.hideAll_none (trk h H) hm
    rw [z] at e; cases e

/-! ### OpenK's ledger, filled with every new object but one -/
def allNews (g h : Heap) (L : Addr) : List (Addr × Obj) := (List.range h.objs.size).filterMap fun a => if a = L ∨ (g.get? a).isSome = true then none else (h.get? a).map fun o => (a, o)
theorem mem_allNews {g h : Heap} {L a : Addr} {o : Obj} (h1 : a ≠ L) (h2 : g.get? a = none) (h3 : h.get? a = some o) : (a, o) ∈ allNews g h L :=
  List.mem_filterMap.mpr ⟨a, List.mem_range.mpr (Heap.lt_size h3), by simp [h1, h2, h3]⟩
theorem of_mem_allNews {g h : Heap} {L : Addr} {p : Addr × Obj} (hp : p ∈ allNews g h L) : p.1 ≠ L ∧ g.get? p.1 = none ∧ h.get? p.1 = some p.2 := by
  obtain ⟨b, _, e⟩ := List.mem_filterMap.mp hp
  split at e
  · cases e
  · rename_i hn
    cases q : h.get? b with
    | none => rw [q] at e; simp at e
    | some u =>
      rw [q] at e
      simp only [Option.map_some, Option.some.injEq] at e
      subst e
      refine ⟨fun z => hn (.inl z), ?_, q⟩
      show g.get? b = none
      cases r : g.get? b with
      | none => rfl
      | some v => exact (hn (.inr (by simp [r]))).elim
def rest (g h : Heap) (L d : Addr) : List (Addr × Obj) := (allNews g h L).filter fun p => decide (p.1 ≠ d)
theorem rest_ne {g h : Heap} {L d : Addr} : ∀ p ∈ rest g h L d, p.1 ≠ d := fun p hp => of_decide_eq_true (List.mem_filter.mp hp).2
theorem mem_rest {g h : Heap} {L d a : Addr} {o : Obj} (h1 : a ≠ L) (h2 : g.get? a = none) (h3 : h.get? a = some o) (h4 : a ≠ d) : (a, o) ∈ rest g h L d :=
  List.mem_filter.mpr ⟨mem_allNews h1 h2 h3, decide_eq_true h4⟩
theorem news_all {g h : Heap} {L : Addr} : News g L h (allNews g h L) := fun p hp => let ⟨a, b, c⟩ := of_mem_allNews hp; ⟨c, a, b⟩
theorem news_at {g h : Heap} {L d : Addr} {o : Obj} (h1 : d ≠ L) (h2 : g.get? d = none) (h3 : h.get? d = some o) : News g L h ((d, o) :: rest g h L d) := fun p hp => by
  rcases List.mem_cons.mp hp with rfl | hp
  · exact ⟨h3, h1, h2⟩
  · exact news_all p (List.mem_filter.mp hp).1
/-- behind a rule that changed d alone: all else but the frame is kept -/
theorem kept_of_news {g h h' : Heap} {L d : Addr} {m : Str → Option Value} (k : ∀ b o, g.get? b = some o → h.get? b = some o) (F : Fr g L h' m) (N : News g L h' (rest g h L d)) :
    ∀ b o, b ≠ L → b ≠ d → h.get? b = some o → h'.get? b = some o := fun b o h1 h2 e => by
  cases q : g.get? b with
  | some u =>
    have := k b u q
    rw [e] at this; cases this
    exact F.keep b _ q
  | none => exact (N (b, o) (mem_rest h1 q e h2)).1
end L2

namespace L2
open PySem PySem.Spec PyProof.Rows

/-- the module's facts, over the base: the heap at the law's entry without what is tracked there -/
structure Mod (K : PySem.W.Frag) (mg : Str → Option Value) (base : Heap) : Prop where
  kin : K.In base
  glob : base.Ns mainGlobals mg
  blt : ∃ mb, base.Ns builtinsNs mb ∧ ∀ x : Str, x ≠ "__name__" → mb x = bootBuiltins x
  nolimit : base.NoLimit

/-- the context: a def's body (or a comprehension's block) running. base: fixed through the whole law; s₀, H₀: the entry; outer: the frames whose slots others may change (a def's callers); stack: all frames that run;
   ex: iterators that were made ahead of the entry and are walked here (a comprehension's); fn: the names whose cells were made at the entry (a def: all; a comprehension's block: its own); calm: not within an except suite; pn: pins that every state bears; xe: what is wanted of an exception that leaves the code -/
structure Cx where
  prog : Program
  w : World
  K : PySem.W.Frag
  mg : Str → Option Value
  base : Heap
  A : Around
  N : List Str
  s₀ : Shared
  H₀ : Hp
  env : Env
  outer : List Env
  stack : List Env
  ex : List Addr
  fn : Str → Bool
  calm : Bool
  pn : List (Addr × Obj)
  xe : Value → Shared → Prop
/-- the callers' frames -/
def frs (l : List Env) : List Addr := l.filterMap (·.frame)
abbrev Cx.fs (X : Cx) : List Addr := frs X.outer

def Vis (sc : Scope) (x : Str) : Prop := sc.names.lookup x = some .local ∨ sc.names.lookup x = some .cell ∨ sc.names.lookup x = some .free
def Loc (sc : Scope) (x : Str) : Prop := sc.names.lookup x = some .local ∨ sc.names.lookup x = some .cell
def Look (env : Env) (h : Heap) (m : Str → Option Value) (x : Str) (u : Value) : Prop :=
  (env.kindOf x = some .local ∧ m x = some u) ∨ ((env.kindOf x = some .cell ∨ env.kindOf x = some .free) ∧ ∃ c, env.cells.lookup x = some c ∧ h.IsCell c (some u))

structure Cx.Ok (X : Cx) : Prop where
  mod : Mod X.K X.mg X.base
  kind : X.env.scope.kind = .function
  glob : X.env.globals = mainGlobals
  blt : X.env.builtins = builtinsNs
  above : X.s₀.heap.objs.size ≤ X.env.locals
  inj : ∀ x y c, X.env.cells.lookup x = some c → X.env.cells.lookup y = some c → x = y
  has : ∀ x, (X.env.kindOf x = some .cell ∨ X.env.kindOf x = some .free) → ∃ c, X.env.cells.lookup x = some c
  cab : ∀ x c, X.fn x = true → X.env.cells.lookup x = some c → X.s₀.heap.objs.size ≤ c
  hd : X.calm = true → X.A.handled = none
  frames : X.A.frames = some X.stack
  stk : X.stack = X.outer ∨ (X.stack = X.env :: X.outer ∧ X.env.frame = some X.env.locals)
  exf : ∀ b ∈ X.ex, b ≠ X.env.locals ∧ ∀ x c, X.env.cells.lookup x = some c → c ≠ b
  bs : ∀ b o, X.base.get? b = some o → X.s₀.heap.get? b = some o ∧ X.H₀ b = none
  bsz : X.base.objs.size ≤ X.s₀.heap.objs.size
  noex : ∀ b o, X.base.get? b = some o → b ∉ X.ex
  exfs : ∀ b ∈ X.ex, b ∉ X.fs
  funs : X.s₀.heap.FunFrames X.base X.outer
  frf : ∀ b ∈ X.fs, X.H₀ b = none

structure Inv (X : Cx) (pins : List (Addr × Obj)) (σ : List (Option V)) (H : Hp) (s : Shared) : Prop where
  ok : X.Ok
  os : s.os = X.s₀.os
  bare : AllBare s.gens
  base : Un X.fs X.ex X.H₀ H X.s₀.heap s.heap
  loc : ∃ m, s.heap.Ns X.env.locals m ∧ ∀ (i : Nat) (x : Str) (v : V), X.N[i]? = some x → σ[i]? = some (some v) → Vis X.env.scope x → ∃ u, RelV v u ∧ Look X.env s.heap m x u
  cell : ∀ x c, X.env.cells.lookup x = some c → ∃ v, s.heap.IsCell c v
  free : H X.env.locals = none
  freeC : ∀ x c, X.env.cells.lookup x = some c → H c = none
  pin : ∀ p ∈ X.pn ++ pins, s.heap.get? p.1 = some p.2 ∧ H p.1 = none ∧ p.1 ≠ X.env.locals ∧ p.1 ∉ X.fs ∧ ∀ v, p.2.data ≠ .cell v
  hok : HOk X.prog X.w H s.heap
  len : σ.length = X.N.length
  tk : 0 < s.toks

section
variable {X : Cx} {pins : List (Addr × Obj)} {σ : List (Option V)} {H H' : Hp} {s : Shared} {h' : Heap}

theorem Cx.Ok.nofr (ok : X.Ok) {b : Addr} {o : Obj} (e : X.base.get? b = some o) : b ∉ X.fs := fun hb => by
  have := (ok.funs.mem hb).1
  rw [e] at this; cases this
theorem Inv.bs (I : Inv X pins σ H s) : ∀ b o, X.base.get? b = some o → s.heap.get? b = some o ∧ H b = none := fun b o e =>
  ⟨I.base.keep b o (I.ok.bs b o e).1 (I.ok.bs b o e).2 (I.ok.nofr e) (I.ok.noex b o e), I.base.free b o (I.ok.bs b o e).1 (I.ok.bs b o e).2 (I.ok.noex b o e)⟩
theorem Inv.bk (I : Inv X pins σ H s) : ∀ b o, X.base.get? b = some o → s.heap.get? b = some o := fun b o e => (I.bs b o e).1
theorem Inv.mod (I : Inv X pins σ H s) : Mod X.K X.mg X.base := I.ok.mod
theorem Inv.kIn (I : Inv X pins σ H s) : X.K.In s.heap := I.ok.mod.kin.keeps I.bk
theorem Inv.nolimit (I : Inv X pins σ H s) : s.heap.NoLimit := I.ok.mod.nolimit.keeps I.bk
/-- the frame over the base: for OpenK's rules (K.In X.base is I.mod.kin) -/
theorem Inv.fr (I : Inv X pins σ H s) : ∃ m, Fr X.base X.env.locals s.heap m :=
  let ⟨m, hn, _⟩ := I.loc
  ⟨m, hn, I.bk, Nat.le_trans I.ok.bsz I.ok.above⟩
theorem Inv.lt (I : Inv X pins σ H s) : X.env.locals < s.heap.objs.size := let ⟨_, hn, _⟩ := I.loc; hn.lt
theorem Inv.sz (I : Inv X pins σ H s) : X.s₀.heap.objs.size ≤ s.heap.objs.size := Nat.le_trans I.ok.above (Nat.le_of_lt I.lt)
theorem Inv.nofs (I : Inv X pins σ H s) {a : Addr} (h : s.heap.objs.size ≤ a) : a ∉ X.fs := fun hb => by
  obtain ⟨_, o, ho, _⟩ := I.ok.funs.mem hb
  exact absurd (Nat.lt_of_lt_of_le (Heap.lt_size ho) (Nat.le_trans I.sz h)) (Nat.lt_irrefl _)
theorem Inv.cne (I : Inv X pins σ H s) : ∀ x c, X.env.cells.lookup x = some c → c ≠ X.env.locals := fun x c e z => by
  obtain ⟨v, o, ho, hd⟩ := I.cell x c e
  obtain ⟨m, ⟨o', es, ep, ho', hd', _⟩, _⟩ := I.loc
  rw [z, ho'] at ho; cases ho; rw [hd'] at hd; cases hd
theorem Inv.funs (I : Inv X pins σ H s) : s.heap.FunFrames X.base X.outer := by
  have all : ∀ (l : List Env), (∀ b ∈ frs l, b ∈ X.fs) → X.s₀.heap.FunFrames X.base l → s.heap.FunFrames X.base l := by
    intro l
    induction l with
    | nil => intro _ _; trivial
    | cons env r ih =>
      intro hs hl
      obtain ⟨hk, ⟨L, o, hf, hn, ho, hd⟩, hr⟩ := hl
      have hL : L ∈ X.fs := hs L (by unfold frs; rw [List.filterMap_cons, hf]; exact List.mem_cons_self)
      obtain ⟨sl, e⟩ := I.base.slot L o ho (I.ok.frf L hL) hL fun z => I.ok.exfs L z hL
      exact ⟨hk, ⟨L, _, hf, hn, e, hd⟩, ih (fun b hb => hs b (by unfold frs; rw [List.filterMap_cons, hf]; exact List.mem_cons_of_mem _ hb)) hr⟩
  exact all X.outer (fun _ hb => hb) I.ok.funs

/-- the frames that run, for a call -/
theorem Inv.stack (I : Inv X pins σ H s) : s.heap.FunFrames X.base X.stack := by
  rcases I.ok.stk with e | ⟨e, hf⟩
  · rw [e]; exact I.funs
  · rw [e]
    obtain ⟨m, hn, _⟩ := I.loc
    refine .cons (by rw [I.ok.kind]; decide) hf hn ?_ I.funs
    exact Heap.get?_none_of_le (Nat.le_trans I.ok.bsz I.ok.above)
theorem Inv.stkSub (I : Inv X pins σ H s) : ∀ b ∈ frs X.stack, b ∈ X.env.locals :: X.fs := fun b hb => by
  rcases I.ok.stk with e | ⟨e, hf⟩
  · rw [e] at hb; exact List.mem_cons_of_mem _ hb
  · rw [e] at hb
    unfold frs at hb
    rw [List.filterMap_cons, hf] at hb
    exact hb
theorem Inv.stkFree (I : Inv X pins σ H s) : ∀ b ∈ frs X.stack, H b = none := fun b hb => by
  rcases List.mem_cons.mp (I.stkSub b hb) with e | hb
  · rw [e]; exact I.free
  · obtain ⟨_, o, ho, _⟩ := I.ok.funs.mem hb
    exact I.base.free b o ho (I.ok.frf b hb) fun z => I.ok.exfs b z hb

/-- THE STEP: the untracked objects but the frame and the records at ch are kept (the callers' frames up to slots), the frame's map is kept, the new abstract heap is held -/
theorem Inv.step {g' : Array GenState} {t' : Nat} {d' : Drawn} {ch : List Addr} (I : Inv X pins σ H s)
    (hch : ∀ b ∈ ch, (b ∈ X.ex ∨ X.s₀.heap.objs.size ≤ b) ∧ b ≠ X.env.locals ∧ (∀ x c, X.env.cells.lookup x = some c → c ≠ b) ∧ ∀ p ∈ X.pn ++ pins, p.1 ≠ b)
    (keep : ∀ b o, b ≠ X.env.locals → b ∉ X.fs → b ∉ ch → s.heap.get? b = some o → H b = none → h'.get? b = some o)
    (slot : ∀ b o, b ≠ X.env.locals → b ∈ X.fs → b ∉ ch → s.heap.get? b = some o → H b = none → ∃ sl, h'.get? b = some { o with slots := sl }) (free : ∀ b o, b ∉ ch → s.heap.get? b = some o → H b = none → H' b = none)
    (there : ∀ b o, b ∉ ch → s.heap.get? b = some o → ∃ o', h'.get? b = some o')
    (tups : ∀ b xs, H b = some (.tup xs) → H' b = some (.tup xs)) (frzs : ∀ b o u, H b = some (.frz o u) → H' b = some (.frz o u)) (tbls : ∀ b ps, H b = some (.tbl ps) → ∃ more, H' b = some (.tbl (ps ++ more)))
    (ns : ∀ m, s.heap.Ns X.env.locals m → h'.Ns X.env.locals m) (hok : HOk X.prog X.w H' h') (hg : AllBare g') (ht : 0 < t' := by first | exact Nat.succ_pos _ | assumption | exact Inv.tk ‹_› | omega) :
    Inv X pins σ H' { s with heap := h', gens := g', drawn := d', toks := t' } := by
  have neL : ∀ b o, X.s₀.heap.get? b = some o → b ≠ X.env.locals := fun b o e => Nat.ne_of_lt (Nat.lt_of_lt_of_le (Heap.lt_size e) I.ok.above)
  have neC : ∀ b o, X.s₀.heap.get? b = some o → b ∉ X.ex → b ∉ ch := fun b o e hx hb => by
    rcases (hch b hb).1 with z | z
    · exact hx z
    · exact absurd (Nat.lt_of_lt_of_le (Heap.lt_size e) z) (Nat.lt_irrefl _)
  have cellK : ∀ x c, X.env.cells.lookup x = some c → ∀ v, s.heap.IsCell c v → h'.IsCell c v := fun x c e v ⟨o, ho, hd⟩ => by
    have nch : c ∉ ch := fun z => (hch c z).2.2.1 x c e rfl
    by_cases hc : c ∈ X.fs
    · obtain ⟨sl, q⟩ := slot c o (I.cne x c e) hc nch ho (I.freeC x c e)
      exact ⟨_, q, hd⟩
    · exact ⟨o, keep c o (I.cne x c e) hc nch ho (I.freeC x c e), hd⟩
  refine ⟨I.ok, I.os, hg, ⟨fun b o e n hb hx => ?_, fun b o e n hb hx => ?_, fun b o e n hx => ?_, fun b o e hx => ?_, fun b xs e => tups b xs (I.base.tups b xs e), fun b o xs e => frzs b o xs (I.base.frzs b o xs e), fun b ps e => ?_⟩, ?_, fun x c e => ?_, ?_, fun x c e => ?_, fun p hp => ?_, hok, I.len, ht⟩
  · exact keep b o (neL b o e) hb (neC b o e hx) (I.base.keep b o e n hb hx) (I.base.free b o e n hx)
  · obtain ⟨sl, e1⟩ := I.base.slot b o e n hb hx
    obtain ⟨sl', e2⟩ := slot b _ (neL b o e) hb (neC b o e hx) e1 (I.base.free b o e n hx)
    exact ⟨sl', e2⟩
  · obtain ⟨o', e1⟩ := I.base.there b o e hx
    exact free b o' (neC b o e hx) e1 (I.base.free b o e n hx)
  · obtain ⟨o', e1⟩ := I.base.there b o e hx
    exact there b o' (neC b o e hx) e1
  · obtain ⟨m1, e1⟩ := I.base.tbls b ps e
    obtain ⟨m2, e2⟩ := tbls b _ e1
    exact ⟨m1 ++ m2, by rw [e2, Array.append_assoc]⟩
  · obtain ⟨m, hn, hl⟩ := I.loc
    refine ⟨m, ns m hn, fun i x v e1 e2 e3 => ?_⟩
    obtain ⟨u, r, l⟩ := hl i x v e1 e2 e3
    refine ⟨u, r, ?_⟩
    rcases l with l | ⟨k, c, e, z⟩
    · exact .inl l
    · exact .inr ⟨k, c, e, cellK x c e _ z⟩
  · obtain ⟨v, z⟩ := I.cell x c e
    exact ⟨v, cellK x c e v z⟩
  · obtain ⟨m, ⟨o, _, _, ho, _⟩, _⟩ := I.loc
    exact free _ o (fun z => (hch _ z).2.1 rfl) ho I.free
  · obtain ⟨v, o, ho, hd⟩ := I.cell x c e
    exact free c o (fun z => (hch c z).2.2.1 x c e rfl) ho (I.freeC x c e)
  · obtain ⟨e, n, ne, nf, d⟩ := I.pin p hp
    have nch : p.1 ∉ ch := fun z => (hch p.1 z).2.2.2 p hp rfl
    exact ⟨keep p.1 p.2 ne nf nch e n, free p.1 p.2 nch e n, ne, nf, d⟩
/-- .. where the frame's own object is kept too -/
theorem Inv.un {t' : Nat} (I : Inv X pins σ H s) (u : Un X.fs [] H H' s.heap h') (hok : HOk X.prog X.w H' h') (ht : 0 < t' := by first | exact Nat.succ_pos _ | assumption | exact Inv.tk ‹_› | omega) : Inv X pins σ H' { s with heap := h', toks := t' } := by
  obtain ⟨m, ⟨o, es, ep, ho, r⟩, _⟩ := id I.loc
  obtain ⟨sl, hL⟩ := u.any ho I.free (by simp)
  exact I.step (g' := s.gens) (d' := s.drawn) (ch := []) (fun _ z => nomatch z) (fun b o _ hb _ e n => u.keep b o e n hb (by simp)) (fun b o _ hb _ e n => u.slot b o e n hb (by simp)) (fun b o _ e n => u.free b o e n (by simp)) (fun b o _ e => u.there b o e (by simp)) u.tups u.frzs u.tbls (fun m' hm => by
    obtain ⟨o', es', ep', ho', r'⟩ := hm
    rw [ho] at ho'; cases ho'
    exact ⟨_, es', ep', hL, r'⟩) hok I.bare
/-- behind a call (or a comprehension's block): the slots of this frame may have changed too, the records at ch may have turned -/
theorem Inv.call {g' : Array GenState} {t' : Nat} {d' : Drawn} {ch : List Addr} (I : Inv X pins σ H s) (u : Un (frs X.stack) ch H H' s.heap h') (hok : HOk X.prog X.w H' h') (hg : AllBare g')
    (hch : ∀ b ∈ ch, (b ∈ X.ex ∨ X.s₀.heap.objs.size ≤ b) ∧ b ≠ X.env.locals ∧ (∀ x c, X.env.cells.lookup x = some c → c ≠ b) ∧ ∀ p ∈ X.pn ++ pins, p.1 ≠ b) (ht : 0 < t' := by first | exact Nat.succ_pos _ | assumption | exact Inv.tk ‹_› | omega) :
    Inv X pins σ H' { s with heap := h', gens := g', drawn := d', toks := t' } := by
  obtain ⟨m, ⟨o, es, ep, ho, r⟩, _⟩ := id I.loc
  obtain ⟨sl, hL⟩ := u.any ho I.free fun z => (hch _ z).2.1 rfl
  exact I.step (ch := ch) hch (fun b o hL hb hc e n => u.keep b o e n (fun z => (List.mem_cons.mp (I.stkSub b z)).elim hL hb) hc) (fun b o _ _ hc e n => u.any e n hc) (fun b o hc e n => u.free b o e n hc) (fun b o hc e => u.there b o e hc) u.tups u.frzs u.tbls (fun m' hm => by
    obtain ⟨o', es', ep', ho', r'⟩ := hm
    rw [ho] at ho'; cases ho'
    exact ⟨_, es', ep', hL, r'⟩) hok hg
/-- an untracked record of ours (an iterator) has turned -/
theorem Inv.turned {t' : Nat} {it : Addr} (I : Inv X pins σ H s) (k : ∀ b o, b ≠ it → s.heap.get? b = some o → h'.get? b = some o) (hn : H it = none) (hL : it ≠ X.env.locals)
    (h1 : it ∈ X.ex ∨ X.s₀.heap.objs.size ≤ it) (h2 : ∀ x c, X.env.cells.lookup x = some c → c ≠ it) (h3 : ∀ p ∈ X.pn ++ pins, p.1 ≠ it) (ht : 0 < t' := by first | exact Nat.succ_pos _ | assumption | exact Inv.tk ‹_› | omega) : Inv X pins σ H { s with heap := h', toks := t' } := by
  have nit : ∀ b u, H b = some u → b ≠ it := fun b u e z => by rw [z, hn] at e; cases e
  refine I.step (g' := s.gens) (d' := s.drawn) (ch := [it]) (fun b hb => ?_) (fun b o _ _ hc e _ => k b o (fun z => hc (by simp [z])) e) (fun b o _ _ hc e _ => ⟨o.slots, k b o (fun z => hc (by simp [z])) e⟩) (fun _ _ _ _ n => n)
    (fun b o hc e => ⟨o, k b o (fun z => hc (by simp [z])) e⟩) (fun _ _ e => e) (fun _ _ _ e => e) (fun b ps e => ⟨#[], by rw [e]; simp⟩) (fun m hm => ?_) (fun b u e => ?_) I.bare
  · have e : b = it := by simpa using hb
    subst e
    exact ⟨h1, hL, h2, h3⟩
  · obtain ⟨o, es, ep, ho, r⟩ := hm
    exact ⟨o, es, ep, k _ o (Ne.symm hL) ho, r⟩
  · refine (I.hok b u e).stay (fun c v hc q => k c v ?_ q) (fun _ q => q) fun _ _ q => q
    rcases hc with z | z
    · rw [z]; exact nit b u e
    · exact nit c _ z
theorem Inv.tok (I : Inv X pins σ H s) (t' : Nat) (ht : 0 < t' := by first | exact Nat.succ_pos _ | assumption | exact Inv.tk ‹_› | omega) : Inv X pins σ H { s with toks := t' } := I.un (h' := s.heap) (t' := t') Un.refl I.hok
/-- all objects kept -/
theorem Inv.kept {t' : Nat} (I : Inv X pins σ H s) (k : ∀ b u, s.heap.get? b = some u → h'.get? b = some u) (ht : 0 < t' := by first | exact Nat.succ_pos _ | assumption | exact Inv.tk ‹_› | omega) : Inv X pins σ H { s with heap := h', toks := t' } := I.un (Un.kept k) (I.hok.kept k)
/-- a new object laid and tracked -/
theorem Inv.laid {a : Addr} {o : HO} {t' : Nat} (I : Inv X pins σ H s) (k : ∀ b u, s.heap.get? b = some u → h'.get? b = some u) (hp : s.heap.objs.size ≤ a) (new : ObjOk X.prog X.w (upd H a o) h' a o) (ht : 0 < t' := by first | exact Nat.succ_pos _ | assumption | exact Inv.tk ‹_› | omega) :
    Inv X pins σ (upd H a o) { s with heap := h', toks := t' } := I.un (Un.laid k hp (I.hok.fresh hp)) (I.hok.laid k hp new)
/-- an object written -/
theorem Inv.write {x e : Addr} {o : HO} {t' : Nat} (I : Inv X pins σ H s) (mu : Mut (H x)) (he : e = x ∨ H e = some (.own x)) (k : ∀ b u, b ≠ e → s.heap.get? b = some u → h'.get? b = some u) (heo : ∃ u, h'.get? e = some u)
    (new : ObjOk X.prog X.w (upd H x o) h' x o) (ht : 0 < t' := by first | exact Nat.succ_pos _ | assumption | exact Inv.tk ‹_› | omega) : Inv X pins σ (upd H x o) { s with heap := h', toks := t' } := I.un (Un.write mu he k heo) (I.hok.write mu he k heo new)
/-- forgetting slots, pins -/
theorem Inv.weak {σ' : List (Option V)} (I : Inv X pins σ H s) (hl : σ'.length = σ.length) (w : ∀ (i : Nat) v, σ'[i]? = some (some v) → σ[i]? = some (some v)) : Inv X pins σ' H s :=
  ⟨I.ok, I.os, I.bare, I.base, let ⟨m, hn, hl'⟩ := I.loc; ⟨m, hn, fun i x v e1 e2 e3 => hl' i x v e1 (w i v e2) e3⟩, I.cell, I.free, I.freeC, I.pin, I.hok, hl.trans I.len, I.tk⟩
theorem Inv.pins_of {pins' : List (Addr × Obj)} (I : Inv X pins σ H s) (h : ∀ p ∈ pins', s.heap.get? p.1 = some p.2 ∧ H p.1 = none ∧ p.1 ≠ X.env.locals ∧ p.1 ∉ X.fs ∧ ∀ v, p.2.data ≠ .cell v) : Inv X pins' σ H s :=
  ⟨I.ok, I.os, I.bare, I.base, I.loc, I.cell, I.free, I.freeC, fun p hp => (List.mem_append.mp hp).elim (fun z => I.pin p (List.mem_append_left _ z)) (h p), I.hok, I.len, I.tk⟩

theorem nodup_ix {N : List Str} (hN : N.Nodup) {i j : Nat} {x : Str} (a : N[i]? = some x) (b : N[j]? = some x) : i = j := by
  obtain ⟨h1, e1⟩ := List.getElem?_eq_some_iff.mp a
  obtain ⟨h2, e2⟩ := List.getElem?_eq_some_iff.mp b
  exact (List.getElem_inj hN).mp (e1.trans e2.symm)

/-- a name is stored; what changed -/
theorem store_ok2 {M : Model} {A : Around} {E : Value → Shared → Prop} {i : Nat} {x : Str} {v : V} {u : Value} {Q : Unit → Shared → Prop} (I : Inv X pins σ H s) (hN : X.N.Nodup) (hi : X.N[i]? = some x) (hx : Loc X.env.scope x) (r : RelV v u)
    (h : ∀ s', Inv X pins (σ.set i (some v)) H s' → (∃ a, Heap.SameBut a s.heap s'.heap ∧ (a = X.env.locals ∨ X.env.cells.lookup x = some a)) → Q () s') (hf : X.fn x = true ∨ X.env.scope.names.lookup x = some .local := by first | exact .inl rfl | exact .inr rfl | assumption) : wpAny M A (storeName X.env x u) Q E s := by
  obtain ⟨m, hn, hl⟩ := id I.loc
  have hcls : (X.env.scope.kind == .class || (X.env.scope.kind == .module && X.env.locals != X.env.globals)) = false := by rw [I.ok.kind]; rfl
  have hiσ : i < σ.length := by rw [I.len]; exact (List.getElem?_eq_some_iff.mp hi).1
  have cne := I.cne
  have tracked : ∀ {a : Addr} {h' : Heap}, (∃ o, s.heap.get? a = some o ∧ H a = none) → Heap.SameBut a s.heap h' → HOk X.prog X.w H h' := fun {a h'} ha hs b ob e => by
    obtain ⟨_, _, hfree⟩ := ha
    refine (I.hok b ob e).stay (fun c w' hc q => (hs.2 c ?_).trans q) (fun _ q => q) fun _ _ q => q
    rintro rfl
    rcases hc with rfl | hc
    · rw [hfree] at e; cases e
    · rw [hfree] at hc; cases hc
  rcases hx with hk | hk
  · refine wpAny_storeName_local hk hn (fun h' hn' hs => ?_) hcls
    obtain ⟨oL, _, _, hoL, _⟩ := id hn
    refine h _ ⟨I.ok, I.os, I.bare, ⟨fun b o e n hb hx => ?_, fun b o e n hb hx => ?_, I.base.free, fun b o e hx => ?_, I.base.tups, I.base.frzs, I.base.tbls⟩, ⟨_, hn', fun j y v' e1 e2 e3 => ?_⟩, fun y c e => ?_, I.free, I.freeC, fun p hp => ?_, tracked ⟨oL, hoL, I.free⟩ hs, by simpa using I.len, by first | exact I.tk | exact Nat.succ_pos _⟩ ⟨_, hs, .inl rfl⟩
    · exact (hs.2 b (Nat.ne_of_lt (Nat.lt_of_lt_of_le (Heap.lt_size e) I.ok.above))).trans (I.base.keep b o e n hb hx)
    · obtain ⟨sl, e1⟩ := I.base.slot b o e n hb hx
      exact ⟨sl, (hs.2 b (Nat.ne_of_lt (Nat.lt_of_lt_of_le (Heap.lt_size e) I.ok.above))).trans e1⟩
    · obtain ⟨o', e1⟩ := I.base.there b o e hx
      exact ⟨o', (hs.2 b (Nat.ne_of_lt (Nat.lt_of_lt_of_le (Heap.lt_size e) I.ok.above))).trans e1⟩
    · by_cases hj : j = i
      · subst hj
        rw [hi] at e1; cases e1
        rw [List.getElem?_set_self hiσ] at e2
        cases e2
        exact ⟨u, r, .inl ⟨hk, by simp⟩⟩
      · rw [List.getElem?_set_ne (Ne.symm hj)] at e2
        obtain ⟨u', r', q⟩ := hl j y v' e1 e2 e3
        refine ⟨u', r', ?_⟩
        rcases q with ⟨k, e⟩ | ⟨k, c, e, z⟩
        · refine .inl ⟨k, ?_⟩
          have : y ≠ x := fun e => hj (nodup_ix hN e1 (e ▸ hi))
          simp [this, e]
        · exact .inr ⟨k, c, e, z.sameBut hs (cne y c e)⟩
    · obtain ⟨w', z⟩ := I.cell y c e
      exact ⟨w', z.sameBut hs (cne y c e)⟩
    · obtain ⟨e, n, ne, nf, d⟩ := I.pin p hp
      exact ⟨(hs.2 p.1 ne).trans e, n, ne, nf, d⟩
  · have hfn : X.fn x = true := by
      rcases hf with z | z
      · exact z
      · rw [z] at hk; cases hk
    obtain ⟨c, hc⟩ := I.ok.has x (.inl hk)
    obtain ⟨w', z⟩ := I.cell x c hc
    refine wpAny_storeName_cell I.ok.kind hk hc z (fun h' hc' hs => ?_)
    obtain ⟨oc, hoc, hocd⟩ := id z
    refine h { s with heap := h' } ⟨I.ok, I.os, I.bare, ⟨fun b o e n hb hx => ?_, fun b o e n hb hx => ?_, I.base.free, fun b o e hx => ?_, I.base.tups, I.base.frzs, I.base.tbls⟩, ⟨m, hn.sameBut hs (Ne.symm (cne x c hc)), fun j y v' e1 e2 e3 => ?_⟩, fun y c' e => ?_, I.free, I.freeC, fun p hp => ?_, tracked ⟨oc, hoc, I.freeC x c hc⟩ hs, by simpa using I.len, by first | exact I.tk | exact Nat.succ_pos _⟩ ⟨c, hs, .inr hc⟩
    · exact (hs.2 b (Nat.ne_of_lt (Nat.lt_of_lt_of_le (Heap.lt_size e) (I.ok.cab x c hfn hc)))).trans (I.base.keep b o e n hb hx)
    · obtain ⟨sl, e1⟩ := I.base.slot b o e n hb hx
      exact ⟨sl, (hs.2 b (Nat.ne_of_lt (Nat.lt_of_lt_of_le (Heap.lt_size e) (I.ok.cab x c hfn hc)))).trans e1⟩
    · obtain ⟨o', e1⟩ := I.base.there b o e hx
      exact ⟨o', (hs.2 b (Nat.ne_of_lt (Nat.lt_of_lt_of_le (Heap.lt_size e) (I.ok.cab x c hfn hc)))).trans e1⟩
    · by_cases hj : j = i
      · subst hj
        rw [hi] at e1; cases e1
        rw [List.getElem?_set_self hiσ] at e2
        cases e2
        exact ⟨u, r, .inr ⟨.inl hk, c, hc, hc'⟩⟩
      · rw [List.getElem?_set_ne (Ne.symm hj)] at e2
        obtain ⟨u', r', q⟩ := hl j y v' e1 e2 e3
        refine ⟨u', r', ?_⟩
        rcases q with q | ⟨k, c', e, z'⟩
        · exact .inl q
        · refine .inr ⟨k, c', e, z'.sameBut hs ?_⟩
          rintro rfl
          exact hj (nodup_ix hN e1 (I.ok.inj _ _ _ e hc ▸ hi))
    · by_cases hcc : c' = c
      · subst hcc; exact ⟨_, hc'⟩
      · obtain ⟨w2, z2⟩ := I.cell y c' e
        exact ⟨w2, z2.sameBut hs hcc⟩
    · obtain ⟨e, n, ne, nf, d⟩ := I.pin p hp
      refine ⟨(hs.2 p.1 ?_).trans e, n, ne, nf, d⟩
      intro q
      rw [q, hoc] at e
      have q' : oc = p.2 := Option.some.inj e
      exact d w' (by rw [← q']; exact hocd)
theorem store_ok {M : Model} {A : Around} {E : Value → Shared → Prop} {i : Nat} {x : Str} {v : V} {u : Value} {Q : Unit → Shared → Prop} (I : Inv X pins σ H s) (hN : X.N.Nodup) (hi : X.N[i]? = some x) (hx : Loc X.env.scope x) (r : RelV v u)
    (h : ∀ s', Inv X pins (σ.set i (some v)) H s' → Q () s') (hf : X.fn x = true ∨ X.env.scope.names.lookup x = some .local := by first | exact .inl rfl | exact .inr rfl | assumption) : wpAny M A (storeName X.env x u) Q E s :=
  store_ok2 I hN hi hx r (fun s' I' _ => h s' I') hf
/-- behind a call or a block, the state as it is -/
theorem Inv.call' {s' : Shared} {ch : List Addr} (I : Inv X pins σ H s) (ho : s'.os = s.os) (u : Un (frs X.stack) ch H H' s.heap s'.heap) (hok : HOk X.prog X.w H' s'.heap) (hg : AllBare s'.gens)
    (hch : ∀ b ∈ ch, (b ∈ X.ex ∨ X.s₀.heap.objs.size ≤ b) ∧ b ≠ X.env.locals ∧ (∀ x c, X.env.cells.lookup x = some c → c ≠ b) ∧ ∀ p ∈ X.pn ++ pins, p.1 ≠ b) (ht : 0 < s'.toks := by assumption) : Inv X pins σ H' s' := by
  obtain ⟨h', g', d', t', o'⟩ := s'
  have e : o' = s.os := ho
  subst e
  exact I.call (g' := g') (t' := t') (d' := d') u hok hg hch
end

/-! ### the judgements -/
/-- an exception: its class, its own dict's address (where it has one), the abstract heap behind it -/
abbrev XK := Value → Option Addr → Hp → Prop
abbrev St := List (Option V)
abbrev VK := V → Hp → Prop
/-- an expression's reading; a test's; an argument list's -/
abbrev TE := St → Hp → VK → Prop
abbrev TT := St → Hp → (Bool → Hp → Prop) → Prop
abbrev TA := St → Hp → (List V → Hp → Prop) → Prop
/-- what is wanted behind a statement -/
structure Ends where
  nx : St → Hp → Prop
  rt : VK
  bk : St → Hp → Prop := fun _ _ => False
  ct : St → Hp → Prop := fun _ _ => False
abbrev TS := Ends → St → Hp → Prop

def EP (X : Cx) (pins : List (Addr × Obj)) (σ : St) (Q : VK) (u : Value) (s' : Shared) : Prop := ∃ v H', Inv X pins σ H' s' ∧ RelV v u ∧ Q v H'
def TP (X : Cx) (pins : List (Addr × Obj)) (σ : St) (Q : Bool → Hp → Prop) (b : Bool) (s' : Shared) : Prop := ∃ H', Inv X pins σ H' s' ∧ Q b H'
def AP (X : Cx) (pins : List (Addr × Obj)) (σ : St) (Q : List V → Hp → Prop) (us : List Value) (s' : Shared) : Prop := ∃ vs H', Inv X pins σ H' s' ∧ Vals vs us ∧ Q vs H'
def SP (X : Cx) (pins : List (Addr × Obj)) (D : Ends) (f : Flow) (s' : Shared) : Prop :=
  match f with
  | .next => ∃ σ' H', Inv X pins σ' H' s' ∧ D.nx σ' H'
  | .brk => ∃ σ' H', Inv X pins σ' H' s' ∧ D.bk σ' H'
  | .cont => ∃ σ' H', Inv X pins σ' H' s' ∧ D.ct σ' H'
  | .ret u => ∃ v σ' H', Inv X pins σ' H' s' ∧ RelV v u ∧ D.rt v H'

def PE (X : Cx) (e : Expr) (t : TE) : Prop :=
  ∀ (pins : List (Addr × Obj)) (s : Shared) (σ : St) (H : Hp) (Q : VK), Inv X pins σ H s → t σ H Q → wpAny (model X.prog X.w) X.A (eval e X.env) (EP X pins σ Q) X.xe s
def PT (X : Cx) (e : Expr) (t : TT) : Prop :=
  ∀ (pins : List (Addr × Obj)) (s : Shared) (σ : St) (H : Hp) (Q : Bool → Hp → Prop), Inv X pins σ H s → t σ H Q → wpAny (model X.prog X.w) X.A (isTrue e X.env (eval e X.env)) (TP X pins σ Q) X.xe s
/-- a test whatever its 'whole' is (and, or) -/
def PW (X : Cx) (e : Expr) (t : TT) : Prop :=
  ∀ (whole : Sem Value) (pins : List (Addr × Obj)) (s : Shared) (σ : St) (H : Hp) (Q : Bool → Hp → Prop), Inv X pins σ H s → t σ H Q → wpAny (model X.prog X.w) X.A (isTrue e X.env whole) (TP X pins σ Q) X.xe s
theorem PW.pt {X : Cx} {e : Expr} {t : TT} (h : PW X e t) : PT X e t := h _
/-- an argument list (no star), from the left -/
def PA (X : Cx) (es : List Expr) (t : TA) : Prop :=
  ∀ (pos : Pos) (pins : List (Addr × Obj)) (s : Shared) (σ : St) (H : Hp) (Q : List V → Hp → Prop), Inv X pins σ H s → t σ H Q → wpAny (model X.prog X.w) X.A (spliced (backTo pos (starEach es X.env))) (AP X pins σ Q) X.xe s
def PS (X : Cx) (st : Stmt) (t : TS) : Prop :=
  ∀ (pins : List (Addr × Obj)) (s : Shared) (σ : St) (H : Hp) (D : Ends), Inv X pins σ H s → t D σ H → wpAny (model X.prog X.w) X.A (exec st X.env) (SP X pins D) X.xe s
def PSs (X : Cx) (st : List Stmt) (t : TS) : Prop :=
  ∀ (pins : List (Addr × Obj)) (s : Shared) (σ : St) (H : Hp) (D : Ends), Inv X pins σ H s → t D σ H → wpAny (model X.prog X.w) X.A (execs st X.env) (SP X pins D) X.xe s
/-- weaken the end -/
theorem thn {α : Type} {t : Sem α} {Q Q' : α → Shared → Prop} {M : Model} {A : Around} {E : Value → Shared → Prop} {s : Shared} (h : wpAny M A t Q E s) (hQ : ∀ a s, Q a s → Q' a s) : wpAny M A t Q' E s := wpAny_mono h hQ fun _ _ x => x
end L2

namespace L2
open PySem PySem.Spec PyProof.Rows
section
variable {X : Cx}

/-- two expressions in a row -/
theorem bin {a b : Expr} {ta tb : TE} (ha : PE X a ta) (hb : PE X b tb) {pins : List (Addr × Obj)} {s : Shared} {σ : St} {H : Hp} {R : V → V → Hp → Prop} (I : Inv X pins σ H s) (h : ta σ H fun x H1 => tb σ H1 fun y H2 => R x y H2)
    {α : Type} {Q : α → Shared → Prop} {f : Value → Value → Sem α}
    (hf : ∀ v u s2 x y H2, Inv X pins σ H2 s2 → RelV x v → RelV y u → R x y H2 → wpAny (model X.prog X.w) X.A (f v u) Q X.xe s2) :
    wpAny (model X.prog X.w) X.A (eval a X.env) (fun v s₁ => wpAny (model X.prog X.w) X.A (eval b X.env) (fun u s₂ => wpAny (model X.prog X.w) X.A (f v u) Q X.xe s₂) X.xe s₁) X.xe s := by
  refine thn (ha pins s σ H _ I h) fun v s1 ⟨x, H1, I1, r1, q1⟩ => ?_
  refine thn (hb pins s1 σ H1 _ I1 q1) fun u s2 ⟨y, H2, I2, r2, q2⟩ => ?_
  exact hf v u s2 x y H2 I2 r1 r2 q2

/-! ### names and constants -/
def tVar (i : Nat) : TE := fun σ H Q => ∃ v, σ[i]? = some (some v) ∧ Q v H
def tC (v : V) : TE := fun _ H Q => Q v H
theorem pe_var {i : Nat} {x : Str} {pos : Pos} (hN : X.N[i]? = some x) (hv : Vis X.env.scope x) (hd : (x == ("__debug__" : Str)) = false := by decide) (hcd : (x == ("__classdict__" : Str)) = false := by decide) : PE X (.Name x pos) (tVar i) := by
  intro pins s σ H Q I h
  obtain ⟨v, e, h⟩ := h
  obtain ⟨m, hn, hl⟩ := I.loc
  obtain ⟨u, r, l⟩ := hl i x v hN e hv
  have fin : EP X pins σ Q u s := ⟨v, H, I, r, h⟩
  rcases l with ⟨hk, hm⟩ | ⟨hk, c, hc, hcell⟩
  · exact wpAny_Name (wpAny_loadName_local I.ok.kind hk hn hm fin) hd
  · rcases hk with hk | hk
    · exact wpAny_Name (wpAny_loadName_cell I.ok.kind hk hc hcell fin) hd
    · exact wpAny_Name (wpAny_loadName_free I.ok.kind hk hc hcell fin hcd) hd
theorem pe_int {i j pos} : PE X (.Constant (.int i) j pos) (tC (.int i)) := fun _ _ _ H _ I h => wpAny_Constant_int ⟨.int i, H, I.tok _, ⟨_, rfl⟩, h⟩
theorem pe_bl {b j pos} : PE X (.Constant (.bool b) j pos) (tC (.bl b)) := fun _ _ _ H _ I h => Constant_bool ⟨.bl b, H, I, rfl, h⟩
theorem pe_non {j pos} : PE X (.Constant .none j pos) (tC .non) := fun _ _ _ H _ I h => Constant_none ⟨.non, H, I, rfl, h⟩
theorem pe_str {x j pos} : PE X (.Constant (.str x) j pos) (tC (.str x)) := fun _ _ _ H _ I h => Calls.Constant_str ⟨.str x, H, I.tok _, ⟨_, rfl⟩, h⟩

/-- a global name of the def -/
def Gl (X : Cx) (x : Str) : Prop := X.env.kindOf x = some .globalImplicit
theorem ld_glob {E : Value → Shared → Prop} {pins : List (Addr × Obj)} {s : Shared} {σ : St} {H : Hp} {x : Str} {u : Value} {pos : Pos} {Q : Value → Shared → Prop} (I : Inv X pins σ H s) (hg : Gl X x) (hm : X.mg x = some u) (h : Q u s)
    (hd : (x == ("__debug__" : Str)) = false := by decide) : wpAny (model X.prog X.w) X.A (eval (.Name x pos) X.env) Q E s :=
  Calls.Name_function_global I.ok.kind hg (Calls.loadGlobal_global (by rw [I.ok.glob]; exact I.mod.glob.keeps I.bk) hm h) hd
theorem ld_blt {E : Value → Shared → Prop} {pins : List (Addr × Obj)} {s : Shared} {σ : St} {H : Hp} {x : Str} {u : Value} {pos : Pos} {Q : Value → Shared → Prop} (I : Inv X pins σ H s) (hg : Gl X x) (hm : X.mg x = none) (hv : bootBuiltins x = some u) (h : Q u s)
    (hn : x ≠ "__name__" := by decide) (hd : (x == ("__debug__" : Str)) = false := by decide) : wpAny (model X.prog X.w) X.A (eval (.Name x pos) X.env) Q E s := by
  obtain ⟨mb, h1, h2⟩ := I.mod.blt
  exact Calls.Name_function_global I.ok.kind hg (Calls.loadGlobal_builtin (by rw [I.ok.glob]; exact I.mod.glob.keeps I.bk) hm (by rw [I.ok.blt]; exact h1.keeps I.bk) ((h2 x hn).trans hv) h) hd
/-- a module's constant, a class, a function, as a value -/
theorem pe_glob {x : Str} {v : V} {u : Value} {pos : Pos} (hg : Gl X x) (hm : X.mg x = some u) (r : RelV v u) (hd : (x == ("__debug__" : Str)) = false := by decide) : PE X (.Name x pos) (tC v) :=
  fun _ _ _ H _ I h => ld_glob I hg hm ⟨v, H, I, r, h⟩ hd
theorem pe_bltn {x : Str} {v : V} {u : Value} {pos : Pos} (hg : Gl X x) (hm : X.mg x = none) (hv : bootBuiltins x = some u) (r : RelV v u) (hn : x ≠ "__name__" := by decide) (hd : (x == ("__debug__" : Str)) = false := by decide) : PE X (.Name x pos) (tC v) :=
  fun _ _ _ H _ I h => ld_blt I hg hm hv ⟨v, H, I, r, h⟩ hn hd

/-! ### arithmetic -/
/-- two ints -/
def t2I (ta tb : TE) (k : Int → Int → Hp → Prop) : St → Hp → Prop := fun σ H => ta σ H fun x H1 => tb σ H1 fun y H2 => ∃ i j, x = .int i ∧ y = .int j ∧ k i j H2
def tAdd (ta tb : TE) : TE := fun σ H Q => t2I ta tb (fun i j H2 => Q (.int (i + j)) H2) σ H
def tSub (ta tb : TE) : TE := fun σ H Q => t2I ta tb (fun i j H2 => Q (.int (i - j)) H2) σ H
/-- the left factor below 2^64 -/
def tMul (ta tb : TE) : TE := fun σ H Q => t2I ta tb (fun i j H2 => (-(2 ^ 64) < i ∧ i < 2 ^ 64) ∧ Q (.int (i * j)) H2) σ H
variable {a b : Expr} {ta tb : TE} {pos : Pos}
theorem pe_add (ha : PE X a ta) (hb : PE X b tb) : PE X (.BinOp a .Add b pos) (tAdd ta tb) := by
  intro pins s σ H Q I h
  refine wpAny_BinOp (bin ha hb I h fun v u s2 x y H2 I2 rx ry q => ?_)
  obtain ⟨i, j, rfl, rfl, q⟩ := q
  obtain ⟨t, rfl⟩ := rx
  obtain ⟨t', rfl⟩ := ry
  exact add_int ⟨.int _, H2, I2.tok _, ⟨_, rfl⟩, q⟩
theorem pe_sub (ha : PE X a ta) (hb : PE X b tb) : PE X (.BinOp a .Sub b pos) (tSub ta tb) := by
  intro pins s σ H Q I h
  refine wpAny_BinOp (bin ha hb I h fun v u s2 x y H2 I2 rx ry q => ?_)
  obtain ⟨i, j, rfl, rfl, q⟩ := q
  obtain ⟨t, rfl⟩ := rx
  obtain ⟨t', rfl⟩ := ry
  exact sub_int ⟨.int _, H2, I2.tok _, ⟨_, rfl⟩, q⟩
theorem pe_mul (ha : PE X a ta) (hb : PE X b tb) : PE X (.BinOp a .Mult b pos) (tMul ta tb) := by
  intro pins s σ H Q I h
  refine wpAny_BinOp (bin ha hb I h fun v u s2 x y H2 I2 rx ry q => ?_)
  obtain ⟨i, j, rfl, rfl, ⟨q1, q2⟩, q⟩ := q
  obtain ⟨t, rfl⟩ := rx
  obtain ⟨t', rfl⟩ := ry
  exact mul_int ⟨.int _, H2, I2.tok _, ⟨_, rfl⟩, q⟩ (.of_left (intBits_le_64 q1 q2))

/-! ### comparisons -/
def PC (X : Cx) (op : CmpOp) (a b : Expr) (t : TE) : Prop :=
  ∀ (pins : List (Addr × Obj)) (s : Shared) (σ : St) (H : Hp) (Q : VK), Inv X pins σ H s → t σ H Q →
    wpAny (model X.prog X.w) X.A (eval a X.env) (fun v s₁ => wpAny (model X.prog X.w) X.A (eval b X.env) (fun u s₂ => wpAny (model X.prog X.w) X.A (compareOp op v u) (EP X pins σ Q) X.xe s₂) X.xe s₁) X.xe s
theorem nobehind (b : Expr) {op : CmpOp} (h : op ≠ .In) (h2 : op ≠ .NotIn) : behindInMarks op b = false := by
  have e1 : (op == CmpOp.In) = false := by cases op <;> first | rfl | exact absurd rfl h
  have e2 : (op == CmpOp.NotIn) = false := by cases op <;> first | rfl | exact absurd rfl h2
  cases b <;> simp [behindInMarks, e1, e2]
def tCmp (p : Int → Int → Bool) (ta tb : TE) : TE := fun σ H Q => t2I ta tb (fun i j H2 => Q (.bl (p i j)) H2) σ H
abbrev tLt : TE → TE → TE := tCmp fun i j => decide (i < j)
abbrev tLe : TE → TE → TE := tCmp fun i j => decide (i ≤ j)
abbrev tGt : TE → TE → TE := tCmp fun i j => decide (j < i)
abbrev tGe : TE → TE → TE := tCmp fun i j => decide (j ≤ i)
abbrev tEqI : TE → TE → TE := tCmp fun i j => decide (i = j)
abbrev tNeI : TE → TE → TE := tCmp fun i j => !decide (i = j)
/-- a comparison of two ints, by its rule -/
theorem pc_int {op : CmpOp} {p : Int → Int → Bool} (ha : PE X a ta) (hb : PE X b tb)
    (rule : ∀ (i j : Int) (t u : Tok) (Q : Value → Shared → Prop) (s : Shared), Q (.bool (p i j)) s → wpAny (model X.prog X.w) X.A (compareOp op (.int i t) (.int j u)) Q X.xe s) : PC X op a b (tCmp p ta tb) := by
  intro pins s σ H Q I h
  refine bin ha hb I h fun v u s2 x y H2 I2 rx ry q => ?_
  obtain ⟨i, j, rfl, rfl, q⟩ := q
  obtain ⟨t, rfl⟩ := rx
  obtain ⟨t', rfl⟩ := ry
  exact rule i j t t' _ s2 ⟨.bl _, H2, I2, rfl, q⟩
theorem pc_lt (ha : PE X a ta) (hb : PE X b tb) : PC X .Lt a b (tLt ta tb) := pc_int ha hb fun _ _ _ _ _ _ h => lt_int h
theorem pc_le (ha : PE X a ta) (hb : PE X b tb) : PC X .LtE a b (tLe ta tb) := pc_int ha hb fun _ _ _ _ _ _ h => le_int h
theorem pc_gt (ha : PE X a ta) (hb : PE X b tb) : PC X .Gt a b (tGt ta tb) := pc_int ha hb fun _ _ _ _ _ _ h => gt_int h
theorem pc_ge (ha : PE X a ta) (hb : PE X b tb) : PC X .GtE a b (tGe ta tb) := pc_int ha hb fun _ _ _ _ _ _ h => ge_int h
theorem pc_eqI (ha : PE X a ta) (hb : PE X b tb) : PC X .Eq a b (tEqI ta tb) := pc_int ha hb fun _ _ _ _ _ _ h => eq_int (by rw [Bool.beq_eq_decide_eq]; exact h)
theorem pc_neI (ha : PE X a ta) (hb : PE X b tb) : PC X .NotEq a b (tNeI ta tb) := pc_int ha hb fun _ _ _ _ _ _ h => ne_int (by rw [bne, Bool.beq_eq_decide_eq]; exact h)
/-- is None -/
def tIsN (ta : TE) : TE := fun σ H Q => ta σ H fun x H1 => Q (.bl (decide (x = .non))) H1
def tNotN (ta : TE) : TE := fun σ H Q => ta σ H fun x H1 => Q (.bl (!decide (x = .non))) H1
theorem RelV.none_iff {x : V} {v : Value} (r : RelV x v) : (v == Value.none) = decide (x = .non) := by
  cases x with
  | non => cases r; rfl
  | bl _ => cases r; rfl
  | int _ => obtain ⟨t, rfl⟩ := r; rfl
  | str _ => obtain ⟨t, rfl⟩ := r; rfl
  | byt _ => obtain ⟨t, rfl⟩ := r; rfl
  | flt _ => obtain ⟨t, rfl⟩ := r; rfl
  | ref _ => cases r; rfl
  | ty _ => cases r; rfl
theorem pc_isN {j pos'} (ha : PE X a ta) : PC X .Is a (.Constant .none j pos') (tIsN ta) := by
  intro pins s σ H Q I h
  refine thn (ha pins s σ H _ I h) fun v s1 ⟨x, H1, I1, r1, q1⟩ => ?_
  exact Constant_none (is_none_gen ⟨.bl _, H1, I1, by rw [r1.none_iff]; rfl, q1⟩)
theorem pc_notN {j pos'} (ha : PE X a ta) : PC X .IsNot a (.Constant .none j pos') (tNotN ta) := by
  intro pins s σ H Q I h
  refine thn (ha pins s σ H _ I h) fun v s1 ⟨x, H1, I1, r1, q1⟩ => ?_
  exact Constant_none (isnot_none_gen ⟨.bl _, H1, I1, by rw [r1.none_iff]; rfl, q1⟩)
/-- a comparison as a value, as a test -/
def tB (t : TE) : TT := fun σ H Q => t σ H fun x H1 => ∃ c, x = .bl c ∧ Q c H1
theorem pe_cmp {op : CmpOp} {t : TE} (h : PC X op a b t) (h1 : behindInMarks op b = false := by first | exact nobehind _ (by decide) (by decide) | rfl) : PE X (.Compare a [op] [b] pos) t := fun pins s σ H Q I hw => wpAny_Compare1 (h pins s σ H Q I hw) h1
theorem pt_cmp {op : CmpOp} {t : TE} (h : PC X op a b t) (h1 : behindInMarks op b = false := by first | exact nobehind _ (by decide) (by decide) | rfl) : PT X (.Compare a [op] [b] pos) (tB t) := by
  intro pins s σ H Q I hw
  refine wpAny_isTrue_Compare1 (thn (h pins s σ H _ I hw) fun v s1 h1 => thn h1 fun u s2 h2 => thn h2 fun c s3 ⟨x, H1, I1, r1, q1⟩ => ?_) h1
  obtain ⟨d, rfl, q⟩ := q1
  cases r1
  exact wpAny_truthy_bool ⟨H1, I1, q⟩
/-- an expression whose value is a bool, as a test -/
theorem pt_val {e : Expr} {t : TE} (h : PE X e t) (he : ∀ whole, isTrue e X.env whole = (do let v ← whole; standAt e.pos; holding [v] (truthy v)) := by intro _; rfl) : PT X e (tB t) := by
  intro pins s σ H Q I hw
  refine isTrue_plain (thn (h pins s σ H _ I hw) fun v s1 ⟨x, H1, I1, r1, q1⟩ => ?_) (he _)
  obtain ⟨d, rfl, q⟩ := q1
  cases r1
  exact wpAny_truthy_bool ⟨H1, I1, q⟩

/-! ### and, or, not -/
variable {tA tB' : TT} {rest : List Expr}
def tAnd (t u : TT) : TT := fun σ H Q => t σ H fun c H1 => if c = true then u σ H1 Q else Q false H1
def tOr (t u : TT) : TT := fun σ H Q => t σ H fun c H1 => if c = true then Q true H1 else u σ H1 Q
def tNot (t : TT) : TT := fun σ H Q => t σ H fun c H1 => Q (!c) H1
theorem pw_and1 (ha : PT X a tA) : PW X (.BoolOp .And [a] pos) tA := by
  intro wh pins s σ H Q I h
  refine isTrue_and (thn (ha pins s σ H Q I h) fun c s1 e => ?_)
  cases c with
  | true => exact isTrue_and_nil e
  | false => exact e
theorem pw_or1 (ha : PT X a tA) : PW X (.BoolOp .Or [a] pos) tA := by
  intro wh pins s σ H Q I h
  refine isTrue_or (thn (ha pins s σ H Q I h) fun c s1 e => ?_)
  cases c with
  | false => exact isTrue_or_nil e
  | true => exact e
theorem pw_and (ha : PT X a tA) (hb : PW X (.BoolOp .And (b :: rest) pos) tB') : PW X (.BoolOp .And (a :: b :: rest) pos) (tAnd tA tB') := by
  intro wh pins s σ H Q I h
  refine isTrue_and (thn (ha pins s σ H _ I h) fun c s1 ⟨H1, I1, q1⟩ => ?_)
  cases c with
  | true => exact hb wh pins s1 σ H1 Q I1 q1
  | false => exact ⟨H1, I1, q1⟩
theorem pw_or (ha : PT X a tA) (hb : PW X (.BoolOp .Or (b :: rest) pos) tB') : PW X (.BoolOp .Or (a :: b :: rest) pos) (tOr tA tB') := by
  intro wh pins s σ H Q I h
  refine isTrue_or (thn (ha pins s σ H _ I h) fun c s1 ⟨H1, I1, q1⟩ => ?_)
  cases c with
  | true => exact ⟨H1, I1, q1⟩
  | false => exact hb wh pins s1 σ H1 Q I1 q1
theorem pt_not (ha : PT X a tA) : PT X (.UnaryOp .Not a pos) (tNot tA) := by
  intro pins s σ H Q I h
  exact isTrue_not (ha pins s σ H (fun c H1 => Q (!c) H1) I h)
/-- .. as values (bools) -/
def tAndV (ta tb : TE) : TE := fun σ H Q => ta σ H fun x H1 => ∃ c, x = .bl c ∧ if c = true then tb σ H1 Q else Q (.bl false) H1
def tOrV (ta tb : TE) : TE := fun σ H Q => ta σ H fun x H1 => ∃ c, x = .bl c ∧ if c = true then Q (.bl true) H1 else tb σ H1 Q
def tNotV (ta : TE) : TE := fun σ H Q => ta σ H fun x H1 => ∃ c, x = .bl c ∧ Q (.bl (!c)) H1
theorem pe_one {op} {t : TE} (h : PE X a t) : PE X (.BoolOp op [a] pos) t := fun pins s σ H Q I hw => BoolOp_one (h pins s σ H Q I hw)
theorem pe_and (ha : PE X a ta) (hb : PE X (.BoolOp .And (b :: rest) pos) tb) : PE X (.BoolOp .And (a :: b :: rest) pos) (tAndV ta tb) := by
  intro pins s σ H Q I h
  refine BoolOp_and (thn (ha pins s σ H _ I h) fun v s1 ⟨x, H1, I1, r1, q1⟩ => ?_)
  obtain ⟨c, rfl, q1⟩ := q1
  cases r1
  refine wpAny_truthy_bool ?_
  cases c with
  | true => exact hb pins s1 σ H1 Q I1 q1
  | false => exact ⟨.bl false, H1, I1, rfl, q1⟩
theorem pe_or (ha : PE X a ta) (hb : PE X (.BoolOp .Or (b :: rest) pos) tb) : PE X (.BoolOp .Or (a :: b :: rest) pos) (tOrV ta tb) := by
  intro pins s σ H Q I h
  refine BoolOp_or (thn (ha pins s σ H _ I h) fun v s1 ⟨x, H1, I1, r1, q1⟩ => ?_)
  obtain ⟨c, rfl, q1⟩ := q1
  cases r1
  refine wpAny_truthy_bool ?_
  cases c with
  | false => exact hb pins s1 σ H1 Q I1 q1
  | true => exact ⟨.bl true, H1, I1, rfl, q1⟩
theorem pe_not (ha : PE X a ta) : PE X (.UnaryOp .Not a pos) (tNotV ta) := by
  intro pins s σ H Q I h
  refine UnaryOp_ (thn (ha pins s σ H _ I h) fun v s1 ⟨x, H1, I1, r1, q1⟩ => ?_)
  obtain ⟨c, rfl, q1⟩ := q1
  cases r1
  exact not_of (wpAny_truthy_bool ⟨.bl (!c), H1, I1, rfl, q1⟩)
/-- a if t else b -/
def tIf (t : TT) (ta tb : TE) : TE := fun σ H Q => t σ H fun c H1 => if c = true then ta σ H1 Q else tb σ H1 Q
theorem pe_ifExp {c : Expr} (hc : PT X c tA) (ha : PE X a ta) (hb : PE X b tb) : PE X (.IfExp c a b pos) (tIf tA ta tb) := by
  intro pins s σ H Q I h
  refine wpAny_IfExp (thn (hc pins s σ H _ I h) fun d s1 ⟨H1, I1, q1⟩ => ?_)
  cases d with
  | true => exact ha pins s1 σ H1 Q I1 q1
  | false => exact hb pins s1 σ H1 Q I1 q1
end
end L2

namespace L2
open PySem PySem.Spec PyProof.Rows

/-! ### a list, a tuple that is read: tracked, frozen, or an object of the module -/
def SqL (K : PySem.W.Frag) (H : Hp) (a : Addr) (xs : List V) : Prop :=
  Rd H a (.lst xs) ∨
    ∃ (o : Obj) (its : Array Value) (n : Nat), K.lookup a = some o ∧ o.cls = .type "list" ∧ o.dict = none ∧ o.data = .seq its n ∧ its.size ≤ sizeLine ∧ Vals xs its.toList
def SqT (K : PySem.W.Frag) (H : Hp) (a : Addr) (xs : List V) : Prop :=
  Rd H a (.tup xs) ∨
    ∃ (o : Obj) (its : Array Value) (n : Nat), K.lookup a = some o ∧ o.cls = .type "tuple" ∧ o.data = .seq its n ∧ its.size ≤ sizeLine ∧ Vals xs its.toList
def absV : Value → Option V
  | .none => some .non
  | .bool b => some (.bl b)
  | .int i _ => some (.int i)
  | .str x _ => some (.str x)
  | .bytes b _ => some (.byt b)
  | .float b _ => some (.flt b)
  | .ref a => some (.ref a)
  | .type n => some (.ty n)
  | _ => none
theorem RelV.abs {x : V} {u : Value} (r : RelV x u) : absV u = some x := by
  cases x with
  | non => cases r; rfl
  | bl _ => cases r; rfl
  | int _ => obtain ⟨t, rfl⟩ := r; rfl
  | str _ => obtain ⟨t, rfl⟩ := r; rfl
  | byt _ => obtain ⟨t, rfl⟩ := r; rfl
  | flt _ => obtain ⟨t, rfl⟩ := r; rfl
  | ref _ => cases r; rfl
  | ty _ => cases r; rfl
theorem RelV.inj {x y : V} {u : Value} (r : RelV x u) (q : RelV y u) : x = y := Option.some.inj (r.abs.symm.trans q.abs)
theorem Vals.inj : ∀ {xs ys : List V} {us : List Value}, Vals xs us → Vals ys us → xs = ys
  | _, _, _, .nil, .nil => rfl
  | _, _, _, .cons r t, .cons r' t' => by rw [r.inj r', Vals.inj t t']
section
variable {X : Cx} {pins : List (Addr × Obj)} {σ : St} {H : Hp} {s : Shared} {a : Addr} {xs ys : List V}
theorem SqL.of {K : PySem.W.Frag} (h : H a = some (.lst xs)) : SqL K H a xs := .inl (.inl h)
theorem SqT.of {K : PySem.W.Frag} (h : H a = some (.tup xs)) : SqT K H a xs := .inl (.inl h)
theorem Inv.list (I : Inv X pins σ H s) (h : SqL X.K H a xs) : ∃ its : List Value, Vals xs its ∧ PlainL s.heap a its.toArray ∧ xs.length ≤ sizeLine := by
  rcases h with h | ⟨o, its, n, hk, hc, hd, hs, hz, r⟩
  · obtain ⟨z, its, n, r, e⟩ := h.ok I.hok
    exact ⟨its, r, ⟨_, n, e, rfl, rfl, rfl⟩, z⟩
  · refine ⟨its.toList, r, ⟨o, n, I.kIn a o hk, hc, hd, by simpa using hs⟩, ?_⟩
    have e := r.length
    simp only [Array.length_toList] at e
    omega
theorem Inv.tuple (I : Inv X pins σ H s) (h : SqT X.K H a xs) : ∃ its : List Value, Vals xs its ∧ IsTup s.heap a its.toArray ∧ xs.length ≤ sizeLine := by
  rcases h with h | ⟨o, its, n, hk, hc, hs, hz, r⟩
  · obtain ⟨z, its, r, p⟩ := h.ok I.hok
    exact ⟨its, r, p, z⟩
  · refine ⟨its.toList, r, ⟨o, I.kIn a o hk, hc, n, by simpa using hs⟩, ?_⟩
    have e := r.length
    simp only [Array.length_toList] at e
    omega
theorem Inv.list_inj (I : Inv X pins σ H s) (h : SqL X.K H a xs) (h' : SqL X.K H a ys) : xs = ys := by
  obtain ⟨its, r, ⟨o, n, e, _, _, d⟩, _⟩ := I.list h
  obtain ⟨its', r', ⟨o', n', e', _, _, d'⟩, _⟩ := I.list h'
  rw [e] at e'; cases e'
  rw [d] at d'
  injection d' with d1 _
  have : its = its' := by simpa using congrArg Array.toList d1
  subst this
  exact r.inj r'
theorem Inv.tuple_inj (I : Inv X pins σ H s) (h : SqT X.K H a xs) (h' : SqT X.K H a ys) : xs = ys := by
  obtain ⟨its, r, ⟨o, e, _, n, d⟩, _⟩ := I.tuple h
  obtain ⟨its', r', ⟨o', e', _, n', d'⟩, _⟩ := I.tuple h'
  rw [e] at e'; cases e'
  rw [d] at d'
  injection d' with d1 _
  have : its = its' := by simpa using congrArg Array.toList d1
  subst this
  exact r.inj r'
end

/-! ### another wish about exceptions -/
abbrev Cx.wish (X : Cx) (E : Value → Shared → Prop) : Cx := { X with xe := E }
/-- no exception leaves -/
abbrev Cx.nox (X : Cx) : Cx := X.wish fun _ _ => False
theorem Cx.Ok.wish {X : Cx} (ok : X.Ok) (E : Value → Shared → Prop) : (X.wish E).Ok :=
  ⟨ok.mod, ok.kind, ok.glob, ok.blt, ok.above, ok.inj, ok.has, ok.cab, ok.hd, ok.frames, ok.stk, ok.exf, ok.bs, ok.bsz, ok.noex, ok.exfs, ok.funs, ok.frf⟩
theorem Cx.Ok.unwish {X : Cx} {E : Value → Shared → Prop} (ok : (X.wish E).Ok) : X.Ok :=
  ⟨ok.mod, ok.kind, ok.glob, ok.blt, ok.above, ok.inj, ok.has, ok.cab, ok.hd, ok.frames, ok.stk, ok.exf, ok.bs, ok.bsz, ok.noex, ok.exfs, ok.funs, ok.frf⟩
section
variable {X : Cx} {pins : List (Addr × Obj)} {σ : St} {H : Hp} {s : Shared} {E : Value → Shared → Prop}
theorem Inv.wish (I : Inv X pins σ H s) (E : Value → Shared → Prop) : Inv (X.wish E) pins σ H s := ⟨I.ok.wish E, I.os, I.bare, I.base, I.loc, I.cell, I.free, I.freeC, I.pin, I.hok, I.len, I.tk⟩
theorem Inv.unwish (I : Inv (X.wish E) pins σ H s) : Inv X pins σ H s := ⟨I.ok.unwish, I.os, I.bare, I.base, I.loc, I.cell, I.free, I.freeC, I.pin, I.hok, I.len, I.tk⟩
theorem SP.unwish {D : Ends} {f : Flow} {s' : Shared} (h : SP (X.wish E) pins D f s') : SP X pins D f s' := by
  cases f with
  | next => obtain ⟨σ', H', I, q⟩ := h; exact ⟨σ', H', I.unwish, q⟩
  | brk => obtain ⟨σ', H', I, q⟩ := h; exact ⟨σ', H', I.unwish, q⟩
  | cont => obtain ⟨σ', H', I, q⟩ := h; exact ⟨σ', H', I.unwish, q⟩
  | ret u => obtain ⟨v, σ', H', I, r, q⟩ := h; exact ⟨v, σ', H', I.unwish, r, q⟩
theorem PE.nox {e : Expr} {t : TE} (h : PE X.nox e t) : PE X e t := fun pins s σ H Q I hw =>
  wpAny_mono (h pins s σ H Q (I.wish _) hw) (fun _ _ ⟨v, H', I', r, q⟩ => ⟨v, H', I'.unwish, r, q⟩) fun _ _ z => False.elim z
theorem PT.nox {e : Expr} {t : TT} (h : PT X.nox e t) : PT X e t := fun pins s σ H Q I hw =>
  wpAny_mono (h pins s σ H Q (I.wish _) hw) (fun _ _ ⟨H', I', q⟩ => ⟨H', I'.unwish, q⟩) fun _ _ z => False.elim z
theorem PSs.nox {st : List Stmt} {t : TS} (h : PSs X.nox st t) : PSs X st t := fun pins s σ H D I hw =>
  wpAny_mono (h pins s σ H D (I.wish _) hw) (fun _ _ q => q.unwish) fun _ _ z => False.elim z
end

/-! ### blocks and small statements -/
section
variable {X : Cx} {st : Stmt} {rest : List Stmt} {t u : TS} {e : Expr} {te : TE} {pos : Pos}
def tNext : TS := fun D σ H => D.nx σ H
def tSeq (t u : TS) : TS := fun D σ H => t { D with nx := u D } σ H
theorem pss_nil : PSs X [] tNext := fun _ _ σ H _ I h => wpAny_execs_nil ⟨σ, H, I, h⟩
theorem pss_cons (h1 : PS X st t) (h2 : PSs X rest u) : PSs X (st :: rest) (tSeq t u) := by
  intro pins s σ H D I h
  refine wpAny_execs_cons (thn (h1 pins s σ H { D with nx := u D } I h) fun f s1 q => ?_)
  cases f with
  | next =>
    obtain ⟨σ', H', I', q⟩ := q
    exact h2 pins s1 σ' H' D I' q
  | ret v => exact q
  | brk => exact q
  | cont => exact q
theorem pss_one (h1 : PS X st t) : PSs X [st] t := by
  intro pins s σ H D I h
  refine wpAny_execs_cons (thn (h1 pins s σ H D I h) fun f s1 q => ?_)
  cases f with
  | next => exact wpAny_execs_nil q
  | ret v => exact q
  | brk => exact q
  | cont => exact q
def tBreak : TS := fun D σ H => D.bk σ H
def tCont : TS := fun D σ H => D.ct σ H
theorem ps_pass : PS X (.Pass pos) tNext := fun _ _ σ H _ I h => wpAny_Pass ⟨σ, H, I, h⟩
theorem ps_break : PS X (.Break pos) tBreak := fun _ _ σ H _ I h => wpAny_Break ⟨σ, H, I, h⟩
theorem ps_continue : PS X (.Continue pos) tCont := fun _ _ σ H _ I h => wpAny_Continue ⟨σ, H, I, h⟩
/-- in a def's body nothing is shown -/
theorem Inv.quiet {pins : List (Addr × Obj)} {σ : St} {H : Hp} {s : Shared} (I : Inv X pins σ H s) : interactive X.env = false := by simp [interactive, I.ok.kind]
/-- a docstring -/
theorem ps_doc {x j pos pos'} : PS X (.Expr (.Constant (.str x) j pos) pos') tNext := fun _ s σ H _ I h => wpAny_Expr (Calls.Constant_str (show SP X _ _ .next { s with toks := s.toks + 1 } from ⟨σ, H, I.tok _, h⟩)) I.quiet
/-- an expression whose value is dropped -/
def tDrop (te : TE) : TS := fun D σ H => te σ H fun _ H1 => D.nx σ H1
theorem ps_expr (he : PE X e te) (hs : swapsWith e none pos.line X.env = pure false := by rfl) : PS X (.Expr e pos) (tDrop te) := by
  intro pins s σ H D I h
  exact wpAny_Expr_any (thn (he pins s σ H _ I h) fun v s1 ⟨x, H1, I1, r1, q1⟩ => ⟨σ, H1, I1, q1⟩) I.quiet hs
def tRet (te : TE) : TS := fun D σ H => te σ H D.rt
theorem ps_ret (he : PE X e te) : PS X (.Return (some e) pos) (tRet te) := by
  intro pins s σ H D I h
  exact wpAny_Return_some (thn (he pins s σ H _ I h) fun v s1 ⟨x, H1, I1, r1, q1⟩ => ⟨x, σ, H1, I1, r1, q1⟩)
def tRetN : TS := fun D _ H => D.rt .non H
theorem ps_retN : PS X (.Return none pos) tRetN := fun _ _ σ H _ I h => wpAny_Return_none ⟨.non, σ, H, I, rfl, h⟩
def tIfS (c : TT) (t u : TS) : TS := fun D σ H => c σ H fun b H1 => if b = true then t D σ H1 else u D σ H1
theorem ps_if {c : Expr} {a b : List Stmt} {tc : TT} (hc : PT X c tc) (ha : PSs X a t) (hb : PSs X b u) : PS X (.If c a b pos) (tIfS tc t u) := by
  intro pins s σ H D I h
  refine wpAny_If (thn (hc pins s σ H _ I h) fun d s1 ⟨H1, I1, q1⟩ => ?_)
  cases d with
  | true => exact ha pins s1 σ H1 D I1 q1
  | false => exact hb pins s1 σ H1 D I1 q1
/-- code that the proof never comes to -/
def tNever : TS := fun _ _ _ => False
theorem ps_never : PS X st tNever := fun _ _ _ _ _ _ h => h.elim
theorem pss_never {sts : List Stmt} : PSs X sts tNever := fun _ _ _ _ _ _ h => h.elim
end

/-! ### targets -/
abbrev TG := V → St → Hp → (St → Hp → Prop) → Prop
abbrev TGs := List V → St → Hp → (St → Hp → Prop) → Prop
def PG (X : Cx) (target : Expr) (t : TG) : Prop :=
  ∀ (pins : List (Addr × Obj)) (s : Shared) (σ : St) (H : Hp) (v : V) (u : Value) (Q : St → Hp → Prop), Inv X pins σ H s → RelV v u → t v σ H Q →
    wpAny (model X.prog X.w) X.A (assign target X.env u) (fun _ s' => ∃ σ' H', Inv X pins σ' H' s' ∧ Q σ' H') X.xe s
/-- several targets, one after another -/
def PGs (X : Cx) (ts : List Expr) (t : TGs) : Prop :=
  ∀ (pins : List (Addr × Obj)) (s : Shared) (σ : St) (H : Hp) (vs : List V) (us : List Value) (Q : St → Hp → Prop), Inv X pins σ H s → Vals vs us → t vs σ H Q →
    wpAny (model X.prog X.w) X.A (assignInOrder ((assignEach ts X.env).map (·.2)) us) (fun _ s' => ∃ σ' H', Inv X pins σ' H' s' ∧ Q σ' H') X.xe s
/-- o[i] = v, by values -/
abbrev TSet := V → V → V → Hp → (Hp → Prop) → Prop
def PSet (X : Cx) (t : TSet) : Prop :=
  ∀ (pins : List (Addr × Obj)) (s : Shared) (σ : St) (H : Hp) (o i v : V) (ov iv u : Value) (Q : Hp → Prop), Inv X pins σ H s → RelV o ov → RelV i iv → RelV v u → t o i v H Q →
    wpAny (model X.prog X.w) X.A (setItem ov iv u) (fun _ s' => ∃ H', Inv X pins σ H' s' ∧ Q H') X.xe s
/-- a op= b, by values -/
abbrev TIp := V → V → Hp → VK → Prop
def PIp (X : Cx) (op : Operator) (t : TIp) : Prop :=
  ∀ (pins : List (Addr × Obj)) (s : Shared) (σ : St) (H : Hp) (x y : V) (v u : Value) (Q : VK), Inv X pins σ H s → RelV x v → RelV y u → t x y H Q →
    wpAny (model X.prog X.w) X.A (inplaceOp op v u) (EP X pins σ Q) X.xe s
section
variable {X : Cx} {pos : Pos}
def gName (i : Nat) : TG := fun v σ H Q => Q (σ.set i (some v)) H
theorem pg_name {i : Nat} {x : Str} (hN : X.N.Nodup) (hi : X.N[i]? = some x) (hx : Loc X.env.scope x) (hf : X.fn x = true ∨ X.env.scope.names.lookup x = some .local := by first | exact .inl rfl | exact .inr rfl | assumption) : PG X (.Name x pos) (gName i) := by
  intro pins s σ H v u Q I r h
  exact wpAny_assign_Name (store_ok I hN hi hx r (fun s' I' => ⟨_, H, I', h⟩) hf)
def gNil : TGs := fun vs σ H Q => vs = [] ∧ Q σ H
def gCons (t : TG) (u : TGs) : TGs := fun vs σ H Q => ∃ v r, vs = v :: r ∧ t v σ H fun σ' H' => u r σ' H' Q
theorem pgs_nil : PGs X [] gNil := by
  intro pins s σ H vs us Q I r h
  obtain ⟨e, h⟩ := h
  subst e
  cases r
  exact assignInOrder_nil ⟨σ, H, I, h⟩
theorem pgs_cons {e : Expr} {es : List Expr} {t : TG} {u : TGs} (h1 : PG X e t) (h2 : PGs X es u)
    (hs : (assignEach (e :: es) X.env).map (·.2) = assign e X.env :: (assignEach es X.env).map (·.2) := by rfl) : PGs X (e :: es) (gCons t u) := by
  intro pins s σ H vs us Q I r h
  obtain ⟨v, vr, e1, h⟩ := h
  subst e1
  cases r with
  | cons r rr =>
    rw [hs]
    refine assignInOrder_cons (thn (h1 pins s σ H _ _ _ I r h) fun _ s1 ⟨σ1, H1, I1, q1⟩ => ?_)
    exact h2 pins s1 σ1 H1 _ _ Q I1 rr q1
/-- (a, b, ..) = a tuple of that length -/
def gTup (K : PySem.W.Frag) (n : Nat) (t : TGs) : TG := fun v σ H Q => ∃ a xs, v = .ref a ∧ SqT K H a xs ∧ xs.length = n ∧ t xs σ H Q
theorem pg_tup {es : List Expr} {k : Nat} {t : TGs} {n : Nat} (hc : X.calm = true) (h : PGs X es t)
    (hn : (assignEach es X.env).length = n := by rfl) (hst : (assignEach es X.env).findIdx? (·.1) = none := by rfl) : PG X (.Tuple es k pos) (gTup X.K n t) := by
  intro pins s σ H v u Q I r hw
  obtain ⟨a, xs, e1, hq, hl, hw⟩ := hw
  subst e1
  cases r
  obtain ⟨its, rv, ht, hz⟩ := I.tuple hq
  refine assign_Tuple_tuple (I.ok.hd hc) ht (by simp [hn, ← hl, rv.length]) hst fun h' hx => ?_
  have I1 : Inv X pins σ H { s with heap := h' } := I.kept (t' := s.toks) fun b o e => hx b o (Nat.ne_of_lt (Heap.lt_size e)) e
  exact h pins _ σ H xs _ Q I1 (by simpa using rv) hw
/-- o[i] = .. -/
def gSub (to ti : TE) (t : TSet) : TG := fun v σ H Q => to σ H fun o H1 => ti σ H1 fun i H2 => t o i v H2 fun H3 => Q σ H3
theorem pg_sub {o i : Expr} {to ti : TE} {t : TSet} (ho : PE X o to) (hi : PE X i ti) (hs : PSet X t)
    (ha : ∀ v, assign (.Subscript o i pos) X.env v = (do
      let ov ← holding [v] (eval o X.env)
      let iv ← holding [v, ov] (eval i X.env)
      standAt pos
      holding [v, ov, iv] (setItem ov iv v)
      release [v, ov, iv] []) := by intro _; rfl) : PG X (.Subscript o i pos) (gSub to ti t) := by
  intro pins s σ H v u Q I r h
  rw [ha]
  refine wpAny_bind (wpAny_holding (thn (ho pins s σ H _ I h) fun ov s1 ⟨x, H1, I1, r1, q1⟩ => ?_))
  refine wpAny_bind (wpAny_holding (thn (hi pins s1 σ H1 _ I1 q1) fun iv s2 ⟨y, H2, I2, r2, q2⟩ => ?_))
  refine wpAny_bind (wpAny_standAt (wpAny_bind (wpAny_holding (thn (hs pins s2 σ H2 x y v ov iv u _ I2 r1 r2 r q2) fun _ s3 ⟨H3, I3, q3⟩ => ?_))))
  exact wpAny_release ⟨σ, H3, I3, q3⟩
/-- target = value -/
def tAsg (te : TE) (g : TG) : TS := fun D σ H => te σ H fun x H1 => g x σ H1 D.nx
theorem ps_asg {tg e : Expr} {te : TE} {g : TG} (he : PE X e te) (hg : PG X tg g) (hs : swapsWithSole [tg] e pos.line X.env = pure false := by rfl) (hw : swappedStores [tg] e X.env = pure none := by rfl)
    (h1 : (assignEach [tg] X.env).map (·.2) = [assign tg X.env] := by rfl) : PS X (.Assign [tg] e pos) (tAsg te g) := by
  intro pins s σ H D I h
  refine wpAny_Assign_stores (thn (he pins s σ H _ I h) fun v s1 ⟨x, H1, I1, r1, q1⟩ => ?_) hs hw
  rw [h1]
  exact thn (hg pins s1 σ H1 x v _ I1 r1 q1) fun _ s2 q => q
/-- name = value -/
theorem ps_set {i : Nat} {x : Str} {e : Expr} {te : TE} {pos' : Pos} (hN : X.N.Nodup) (hi : X.N[i]? = some x) (hx : Loc X.env.scope x) (he : PE X e te) (hs : swapsWith e (some (.Name x pos')) pos.line X.env = pure false := by rfl) (hf : X.fn x = true ∨ X.env.scope.names.lookup x = some .local := by first | exact .inl rfl | exact .inr rfl | assumption) :
    PS X (.Assign [.Name x pos'] e pos) (tAsg te (gName i)) := by
  intro pins s σ H D I h
  refine wpAny_Assign_Name (thn (he pins s σ H _ I h) fun v s1 ⟨y, H1, I1, r1, q1⟩ => ?_) hs
  exact store_ok I1 hN hi hx r1 (fun s2 I2 => ⟨_, H1, I2, q1⟩) hf
/-- a, b = x, y with plain local names: stored from the right; the pair itself is not tracked (the opening rows as in PyProof/Rows/TupAssign.lean:23) -/
def tPar (i j : Nat) (ta : TA) : TS := fun D σ H => ta σ H fun vs H1 => ∃ v w, vs = [v, w] ∧ D.nx ((σ.set i (some v)).set j (some w)) H1
theorem ps_par {i j : Nat} {x y : Str} {a b : Expr} {ta : TA} {px py pt : Pos} {kt k2 pt2} (hc : X.calm = true) (hN : X.N.Nodup) (hi : X.N[i]? = some x) (hj : X.N[j]? = some y) (hij : i ≠ j)
    (hx : X.env.scope.names.lookup x = some .local) (hy : X.env.scope.names.lookup y = some .local) (ha : PA X [a, b] ta)
    (hw : swappedStores [.Tuple [.Name x px, .Name y py] kt pt] (.Tuple [a, b] k2 pt2) X.env = pure (some [x, y]))
    (hs : swapsWithSole [.Tuple [.Name x px, .Name y py] kt pt] (.Tuple [a, b] k2 pt2) pos.line X.env = pure false := by rfl) :
    PS X (.Assign [.Tuple [.Name x px, .Name y py] kt pt] (.Tuple [a, b] k2 pt2) pos) (tPar i j ta) := by
  intro pins s σ H D I h
  rw [exec_Assign_arm]
  refine wpAny_bind (wpAny_standAt ?_)
  rw [hs]
  refine wpAny_bind (wpAny_pure ?_)
  rw [if_neg (by decide)]
  refine wpAny_bind (Tuple_ (thn (ha _ pins s σ H _ I h) fun us s1 ⟨vs, H1, I1, r1, q1⟩ => ?_))
  obtain ⟨v, w, e1, q1⟩ := q1
  subst e1
  obtain ⟨u1, u2, rfl, rv, rw'⟩ : ∃ u1 u2, us = [u1, u2] ∧ RelV v u1 ∧ RelV w u2 := by
    cases r1 with
    | cons p q =>
      cases q with
      | cons p' q' =>
        cases q'
        exact ⟨_, _, rfl, p, p'⟩
  refine wpAny_newObj_type ?_ (by show 2 ≤ sizeLine; decide)
  have I2 : Inv X pins σ H1 { s1 with heap := s1.heap.push { cls := .type "tuple", data := .seq [u1, u2].toArray } } := I1.kept (t' := s1.toks) fun b o e => Heap.get?_push_of_some _ e
  rw [hw]
  refine wpAny_bind (wpAny_pure ?_)
  show wpAny (model X.prog X.w) X.A (do rule "assign.swapped-stores"; let items ← unpackItems (.ref s1.heap.objs.size) 2 none; assignInOrder [fun v => bindName X.env y v, fun v => bindName X.env x v] items.reverse; pure Flow.next) _ _ _
  refine wpAny_bind (wpAny_rule (wpAny_bind (unpackItems_tuple (items := #[u1, u2]) (I.ok.hd hc) (IsTup.new s1.heap _) fun h' hx' => ?_)))
  have I3 := I2.kept (h' := h') (t' := s1.toks) fun b o e => hx' b o (Nat.ne_of_lt (Heap.lt_size e)) e
  show wpAny _ _ (assignInOrder [fun v => bindName X.env y v, fun v => bindName X.env x v] [u2, u1] >>= fun _ => pure Flow.next) _ _ _
  refine wpAny_bind (assignInOrder_cons (wpAny_bindName (store_ok I3 hN hj (.inl hy) rw' (fun s2 I4 => ?_) (.inr hy))))
  refine assignInOrder_cons (wpAny_bindName (store_ok I4 hN hi (.inl hx) rv (fun s3 I5 => assignInOrder_nil (wpAny_pure ?_)) (.inr hx)))
  rw [List.set_comm _ _ (Ne.symm hij)] at I5
  exact ⟨_, H1, I5, q1⟩
/-- name op= e -/
def tAug (i : Nat) (te : TE) (ti : TIp) : TS := fun D σ H => ∃ x, σ[i]? = some (some x) ∧ te σ H fun y H1 => ti x y H1 fun z H2 => D.nx (σ.set i (some z)) H2
theorem ps_aug {i : Nat} {x : Str} {e : Expr} {te : TE} {op : Operator} {ti : TIp} {pos' : Pos} (hN : X.N.Nodup) (hi : X.N[i]? = some x) (hx : Loc X.env.scope x) (he : PE X e te) (ho : PIp X op ti) (hf : X.fn x = true ∨ X.env.scope.names.lookup x = some .local := by first | exact .inl rfl | exact .inr rfl | assumption) :
    PS X (.AugAssign (.Name x pos') op e pos) (tAug i te ti) := by
  intro pins s σ H D I h
  obtain ⟨v, e1, h⟩ := h
  obtain ⟨m, hn, hl⟩ := I.loc
  have vis : Vis X.env.scope x := by rcases hx with k | k; exact .inl k; exact .inr (.inl k)
  obtain ⟨u, r, l⟩ := hl i x v hi e1 vis
  refine wpAny_AugAssign_Name ?_
  have go : wpAny (model X.prog X.w) X.A (eval e X.env) (fun w s₂ => wpAny (model X.prog X.w) X.A (inplaceOp op u w) (fun r s₃ => wpAny (model X.prog X.w) X.A (storeName X.env x r) (fun _ => SP X pins D .next) X.xe s₃) X.xe s₂) X.xe s := by
    refine thn (he pins s σ H _ I h) fun w s1 ⟨y, H1, I1, r1, q1⟩ => ?_
    refine thn (ho pins s1 σ H1 v y u w _ I1 r r1 q1) fun z s2 ⟨zv, H2, I2, r2, q2⟩ => ?_
    exact store_ok I2 hN hi hx r2 (fun s3 I3 => ⟨_, H2, I3, q2⟩) hf
  rcases l with ⟨hk, hm⟩ | ⟨hk, c, hc, hcell⟩
  · exact wpAny_loadName_local I.ok.kind hk hn hm go
  · rcases hk with hk | hk
    · exact wpAny_loadName_cell I.ok.kind hk hc hcell go
    · rcases hx with k | k
      · have : X.env.scope.names.lookup x = some .free := hk
        rw [k] at this; cases this
      · have : X.env.scope.names.lookup x = some .free := hk
        rw [k] at this; cases this
/-- o[i] op= e -/
def tAugS (to ti te : TE) (tget : V → V → Hp → VK → Prop) (tip : TIp) (tset : TSet) : TS := fun D σ H => to σ H fun o H1 => ti σ H1 fun i H2 => tget o i H2 fun x H3 => te σ H3 fun y H4 => tip x y H4 fun z H5 => tset o i z H5 fun H6 => D.nx σ H6
/-- o[i], by values -/
def PGet (X : Cx) (t : V → V → Hp → VK → Prop) : Prop :=
  ∀ (pins : List (Addr × Obj)) (s : Shared) (σ : St) (H : Hp) (o i : V) (ov iv : Value) (Q : VK), Inv X pins σ H s → RelV o ov → RelV i iv → t o i H Q →
    wpAny (model X.prog X.w) X.A (getItem ov iv) (EP X pins σ Q) X.xe s
theorem ps_augS {o i e : Expr} {to ti te : TE} {tget : V → V → Hp → VK → Prop} {tip : TIp} {tset : TSet} {op : Operator} {tpos : Pos} (ho : PE X o to) (hi : PE X i ti) (hg : PGet X tget) (he : PE X e te) (hp : PIp X op tip) (hs : PSet X tset)
    (ha : ∀ ov iv new, augStore i ov iv new = (do holding [new, ov, iv] (setItem ov iv new); release [new, ov, iv] []; pure .next) := by intros; rfl) : PS X (.AugAssign (.Subscript o i tpos) op e pos) (tAugS to ti te tget tip tset) := by
  intro pins s σ H D I h
  refine wpAny_AugAssign_SubscriptAny (thn (ho pins s σ H _ I h) fun ov s1 ⟨x1, H1, I1, r1, q1⟩ => ?_) ha
  refine thn (hi pins s1 σ H1 _ I1 q1) fun iv s2 ⟨x2, H2, I2, r2, q2⟩ => ?_
  refine thn (hg pins s2 σ H2 x1 x2 ov iv _ I2 r1 r2 q2) fun old s3 ⟨x3, H3, I3, r3, q3⟩ => ?_
  refine thn (he pins s3 σ H3 _ I3 q3) fun v s4 ⟨x4, H4, I4, r4, q4⟩ => ?_
  refine thn (hp pins s4 σ H4 x3 x4 old v _ I4 r3 r4 q4) fun new s5 ⟨x5, H5, I5, r5, q5⟩ => ?_
  exact thn (hs pins s5 σ H5 x1 x2 x5 ov iv new _ I5 r1 r2 r5 q5) fun _ s6 ⟨H6, I6, q6⟩ => ⟨σ, H6, I6, q6⟩
/-- ints -/
def ipI (f : Int → Int → Int) : TIp := fun x y H Q => ∃ i j, x = .int i ∧ y = .int j ∧ Q (.int (f i j)) H
theorem ip_add : PIp X .Add (ipI fun i j => i + j) := by
  intro pins s σ H x y v u Q I r1 r2 h
  obtain ⟨i, j, e1, e2, q⟩ := h
  subst e1; subst e2
  obtain ⟨t, rfl⟩ := r1
  obtain ⟨t', rfl⟩ := r2
  exact iadd_int ⟨.int _, H, I.tok _, ⟨_, rfl⟩, q⟩
theorem ip_sub : PIp X .Sub (ipI fun i j => i - j) := by
  intro pins s σ H x y v u Q I r1 r2 h
  obtain ⟨i, j, e1, e2, q⟩ := h
  subst e1; subst e2
  obtain ⟨t, rfl⟩ := r1
  obtain ⟨t', rfl⟩ := r2
  exact isub_int ⟨.int _, H, I.tok _, ⟨_, rfl⟩, q⟩
end

/-! ### while -/
section
variable {X : Cx} {pos : Pos}
/-- the invariant W with its measure -/
def tWhile (c : TT) (tb : TS) : TS := fun D σ H => ∃ W : Nat → St → Hp → Prop, (∃ m, W m σ H) ∧ ∀ m σ H, W m σ H →
  c σ H fun b H1 => if b = true then ∃ N : St → Hp → Prop, (∀ σ' H', N σ' H' → ∃ m', m' < m ∧ W m' σ' H') ∧ tb { D with nx := N, ct := N, bk := D.nx } σ H1 else D.nx σ H1
theorem ps_while {c : Expr} {body : List Stmt} {tc : TT} {tb : TS} (hp : PassesOwn (model X.prog X.w) X.A X.env X.xe) (hc : PT X c tc) (hb : PSs X body tb) : PS X (.While c body [] pos) (tWhile tc tb) := by
  intro pins s σ H D I h
  obtain ⟨W, ⟨m0, w0⟩, turn⟩ := h
  refine wpAny_While (codeAny_whileLoop (fun n s' => ∃ σ' H', Inv X pins σ' H' s' ∧ W n σ' H') ?_ m0 ⟨σ, H, I, w0⟩)
  rintro n s1 ⟨σ1, H1, I1, w1⟩
  refine wpAny_passesOwn hp (thn (hc pins s1 σ1 H1 _ I1 (turn n σ1 H1 w1)) fun b s2 ⟨H2, I2, q2⟩ => ?_)
  cases b with
  | true =>
    obtain ⟨N, hN, q2⟩ := q2
    rw [if_pos rfl]
    refine wpAny_passesOwn hp (thn (hb pins s2 σ1 H2 _ I2 q2) fun f s3 q3 => ?_)
    cases f with
    | next =>
      obtain ⟨σ3, H3, I3, n3⟩ := q3
      obtain ⟨m', hm, w3⟩ := hN σ3 H3 n3
      exact ⟨m', hm, σ3, H3, I3, w3⟩
    | cont =>
      obtain ⟨σ3, H3, I3, n3⟩ := q3
      obtain ⟨m', hm, w3⟩ := hN σ3 H3 n3
      exact ⟨m', hm, σ3, H3, I3, w3⟩
    | brk => exact q3
    | ret v => exact q3
  | false =>
    rw [if_neg Bool.false_ne_true]
    exact wpAny_execs_nil ⟨σ1, H2, I2, q2⟩
end

/-! ### what a loop or a comprehension walks -/
/-- at turn i: it yields x (the heap may grow), or it stops -/
structure It where
  go : Nat → Hp → Prop
  yld : Nat → Hp → V → Hp → Prop
  stop : Nat → Hp → Prop
/-- the iterator's own objects may turn: they are not the frame's, not pinned, younger than the entry (or a comprehension's own) -/
def FpOk (X : Cx) (pins : List (Addr × Obj)) (H : Hp) (b : Addr) : Prop :=
  H b = none ∧ b ≠ X.env.locals ∧ b ∉ X.fs ∧ (b ∈ X.ex ∨ X.s₀.heap.objs.size ≤ b) ∧ (∀ x c, X.env.cells.lookup x = some c → c ≠ b) ∧ ∀ p ∈ X.pn ++ pins, p.1 ≠ b
theorem Inv.fpOk {X : Cx} {pins : List (Addr × Obj)} {σ : St} {H H' : Hp} {s : Shared} {b : Addr} (I : Inv X pins σ H s) (hb : s.heap.objs.size ≤ b) (hn : H' b = none) : FpOk X pins H' b := by
  refine ⟨hn, Nat.ne_of_gt (Nat.lt_of_lt_of_le I.lt hb), I.nofs hb, .inr (Nat.le_trans I.sz hb), fun x c e z => ?_, fun p hp z => ?_⟩
  · obtain ⟨v, q⟩ := I.cell x c e
    exact absurd (Nat.lt_of_lt_of_le q.lt (by rw [z]; exact hb)) (Nat.lt_irrefl _)
  · exact absurd (Nat.lt_of_lt_of_le (Heap.lt_size (I.pin p hp).1) (by rw [z]; exact hb)) (Nat.lt_irrefl _)
structure Turn (P : Program) (w : World) (K : PySem.W.Frag) (tg : Expr) (J : It) (fp : List Addr) (it : Addr) (tn : Nat → Heap → Prop) : Prop where
  mem : it ∈ fp
  obj : ∀ i h, tn i h → ∀ b ∈ fp, ∃ o, h.get? b = some o ∧ ∀ v, o.data ≠ .cell v
  keep : ∀ i h h', tn i h → (∀ b ∈ fp, ∀ o, h.get? b = some o → h'.get? b = some o) → tn i h'
  item : ∀ (X : Cx), X.prog = P → X.w = w → X.K = K → X.calm = true → ∀ (i : Nat) (pins : List (Addr × Obj)) (s : Shared) (σ : St) (H : Hp) (E : Value → Shared → Prop), Inv X pins σ H s → (∀ b ∈ fp, FpOk X pins H b) → tn i s.heap → J.go i H →
    wpAny (model P w) X.A (pyNext (.ref it)) (fun r s1 => ∃ u, r = some u ∧
      wpAny (model P w) X.A (letOwnedTupleGo tg (.ref it) u) (fun _ s2 => ∃ x H', Inv X pins σ H' s2 ∧ RelV x u ∧ J.yld i H x H' ∧ tn (i + 1) s2.heap ∧ ∀ b ∈ fp, H' b = none) E s1) E s
  done : ∀ (X : Cx), X.prog = P → X.w = w → X.K = K → X.calm = true → ∀ (i : Nat) (pins : List (Addr × Obj)) (s : Shared) (σ : St) (H : Hp) (E : Value → Shared → Prop), Inv X pins σ H s → (∀ b ∈ fp, FpOk X pins H b) → tn i s.heap → J.stop i H →
    wpAny (model P w) X.A (pyNext (.ref it)) (fun r s1 => r = none ∧ Inv X pins σ H s1) E s
  self : ∀ (A : Around) (i : Nat) (s : Shared) (Q : Value → Shared → Prop) (E : Value → Shared → Prop), tn i s.heap → Q (.ref it) s → wpAny (model P w) A (pyIter (.ref it)) Q E s
abbrev TI := St → Hp → (It → Hp → Prop) → Prop
/-- an iterator has come -/
def PIE (X : Cx) (pins : List (Addr × Obj)) (σ : St) (tg : Expr) (R : It → Hp → Prop) (itv : Value) (s2 : Shared) : Prop :=
  ∃ (it : Addr) (fp : List Addr) (tn : Nat → Heap → Prop) (J : It) (H' : Hp), itv = .ref it ∧ Inv X pins σ H' s2 ∧ Turn X.prog X.w X.K tg J fp it tn ∧ tn 0 s2.heap ∧ (∀ b ∈ fp, FpOk X pins H' b) ∧ R J H'
def PI (X : Cx) (tg iter : Expr) (wi : TI) : Prop :=
  ∀ (pins : List (Addr × Obj)) (s : Shared) (σ : St) (H : Hp) (R : It → Hp → Prop), Inv X pins σ H s → wi σ H R →
    wpAny (model X.prog X.w) X.A (eval iter X.env) (fun v s1 => wpAny (model X.prog X.w) X.A (pyIter v) (PIE X pins σ tg R) X.xe s1) X.xe s

/-- the step ahead of the store is nothing for an iterator that keeps no tuple -/
theorem go_of {M : Model} {A : Around} {E : Value → Shared → Prop} {s : Shared} {tg : Expr} {it : Addr} {u : Value} {o : Obj} {n : String} {vs : Array Value} {Q : Unit → Shared → Prop} (ho : s.heap.get? it = some o) (hc : o.cls = .type n) (hd : o.data = .fields vs)
    (hn : ["enumerate", "zip", "dict_itemiterator", "dict_reverseitemiterator", "odict_iterator", "itertools.zip_longest", "itertools.pairwise"].contains n = false) (hQ : Q () s) : wpAny M A (letOwnedTupleGo tg (.ref it) u) Q E s := by
  unfold letOwnedTupleGo
  cases tg <;> first
    | exact wpAny_pure hQ
    | (cases u <;> first
        | exact wpAny_pure hQ
        | (refine wpAny_bind (wpAny_load ho ?_)
           rw [hc, hd]
           show wpAny M A (if (["enumerate", "zip", "dict_itemiterator", "dict_reverseitemiterator", "odict_iterator", "itertools.zip_longest", "itertools.pairwise"].contains n && vs[0]? == some (rawInt _)) = true then _ else _) Q E s
           rw [if_neg (by intro h; rw [hn, Bool.false_and] at h; cases h)]
           exact wpAny_pure hQ))

/-- the list at a, as it stands at each turn (a loop may append to it) -/
def Itl (K : PySem.W.Frag) (a : Addr) : It :=
  ⟨fun i H => ∃ xs x, SqL K H a xs ∧ xs[i]? = some x, fun i H x H' => H' = H ∧ ∀ xs, SqL K H a xs → xs[i]? = some x, fun i H => ∃ xs, SqL K H a xs ∧ xs.length ≤ i⟩
def Itt (K : PySem.W.Frag) (a : Addr) : It :=
  ⟨fun i H => ∃ xs x, SqT K H a xs ∧ xs[i]? = some x, fun i H x H' => H' = H ∧ ∀ xs, SqT K H a xs → xs[i]? = some x, fun i H => ∃ xs, SqT K H a xs ∧ xs.length ≤ i⟩
/-- lo, lo + 1, .. (n of them) -/
def Itr (lo : Int) (n : Nat) : It := ⟨fun i _ => i < n, fun i H x H' => H' = H ∧ x = .int (lo + i), fun i _ => n ≤ i⟩
theorem turn_list {P : Program} {w : World} {K : PySem.W.Frag} {tg : Expr} (a it : Addr) : Turn P w K tg (Itl K a) [it] it (fun i h => h.IsListIter it a i) where
  mem := by simp
  obj := fun i h st b hb => by
    have e : b = it := by simpa using hb
    subst e
    obtain ⟨o, e, c, d⟩ := st
    exact ⟨o, e, fun v z => by rw [d] at z; cases z⟩
  keep := fun i h h' st k => st.at fun o e => k it (by simp) o e
  item := by
    intro X hP hw hK hc i pins s σ H E I hf st hg
    subst hP hw hK
    obtain ⟨xs, x, hq, hx⟩ := hg
    obtain ⟨its, rv, p, hz⟩ := I.list hq
    obtain ⟨u, hu, ru⟩ := rv.get hx
    obtain ⟨f0, f1, f2, f3, f4, f5⟩ := hf it (by simp)
    refine wpAny_pyNext_list_item st p.isList (x := u) (by simpa using hu) fun h' st' sb => ?_
    have I1 : Inv X pins σ H { s with heap := h' } := I.turned (t' := s.toks) (fun b o hb e => (sb.2 b hb).trans e) f0 f1 f3 f4 f5
    obtain ⟨o, e, c, d⟩ := id st'
    exact ⟨u, rfl, go_of (s := { s with heap := h' }) e c d (by decide) ⟨x, H, I1, ru, ⟨rfl, fun ys hy => by rw [I.list_inj hy hq]; exact hx⟩, st', fun b hb => (hf b hb).1⟩⟩
  done := by
    intro X hP hw hK hc i pins s σ H E I hf st hg
    subst hP hw hK
    obtain ⟨xs, hq, hx⟩ := hg
    obtain ⟨its, rv, p, hz⟩ := I.list hq
    obtain ⟨f0, f1, f2, f3, f4, f5⟩ := hf it (by simp)
    have hl := rv.length
    exact wpAny_pyNext_list_end (I.ok.hd hc) st p.isList (by simp; omega) fun h' eb => ⟨rfl, I.turned (t' := s.toks) (fun b o hb e => eb b o hb e) f0 f1 f3 f4 f5⟩
  self := fun _ _ _ _ _ st h => wpAny_pyIter_listiter st h
theorem turn_tuple {P : Program} {w : World} {K : PySem.W.Frag} {tg : Expr} (a it : Addr) : Turn P w K tg (Itt K a) [it] it (fun i h => h.IsTupleIter it a i) where
  mem := by simp
  obj := fun i h st b hb => by
    have e : b = it := by simpa using hb
    subst e
    obtain ⟨o, e, c, d⟩ := st
    exact ⟨o, e, fun v z => by rw [d] at z; cases z⟩
  keep := fun i h h' st k => st.at fun o e => k it (by simp) o e
  item := by
    intro X hP hw hK hc i pins s σ H E I hf st hg
    subst hP hw hK
    obtain ⟨xs, x, hq, hx⟩ := hg
    obtain ⟨its, rv, p, hz⟩ := I.tuple hq
    obtain ⟨u, hu, ru⟩ := rv.get hx
    obtain ⟨f0, f1, f2, f3, f4, f5⟩ := hf it (by simp)
    refine wpAny_pyNext_tuple_item st (show s.heap.IsTuple a its.toArray from p) (x := u) (by simpa using hu) fun h' st' sb => ?_
    have I1 : Inv X pins σ H { s with heap := h' } := I.turned (t' := s.toks) (fun b o hb e => (sb.2 b hb).trans e) f0 f1 f3 f4 f5
    obtain ⟨o, e, c, d⟩ := id st'
    exact ⟨u, rfl, go_of (s := { s with heap := h' }) e c d (by decide) ⟨x, H, I1, ru, ⟨rfl, fun ys hy => by rw [I.tuple_inj hy hq]; exact hx⟩, st', fun b hb => (hf b hb).1⟩⟩
  done := by
    intro X hP hw hK hc i pins s σ H E I hf st hg
    subst hP hw hK
    obtain ⟨xs, hq, hx⟩ := hg
    obtain ⟨its, rv, p, hz⟩ := I.tuple hq
    obtain ⟨f0, f1, f2, f3, f4, f5⟩ := hf it (by simp)
    have hl := rv.length
    exact wpAny_pyNext_tuple_end (I.ok.hd hc) st (show s.heap.IsTuple a its.toArray from p) (by simp; omega) fun h' eb => ⟨rfl, I.turned (t' := s.toks) (fun b o hb e => eb b o hb e) f0 f1 f3 f4 f5⟩
  self := fun _ _ _ _ _ st h => wpAny_pyIter_tupleiter st h
theorem turn_range {P : Program} {w : World} {K : PySem.W.Frag} {tg : Expr} (it : Addr) (lo : Int) (n : Nat) : Turn P w K tg (Itr lo n) [it] it (fun i h => IsRangeIter h it (lo + (i : Nat) * 1) ((n : Int) - (i : Nat)) 1) where
  mem := by simp
  obj := fun i h st b hb => by
    have e : b = it := by simpa using hb
    subst e
    exact ⟨_, st, fun v z => by
      have z' : Data.fields _ = Data.cell v := z
      cases z'⟩
  keep := fun i h h' st k => k it (by simp) _ st
  item := by
    intro X hP hw hK hc i pins s σ H E I hf st hg
    subst hP hw hK
    obtain ⟨f0, f1, f2, f3, f4, f5⟩ := hf it (by simp)
    have W := Walks.range (prog := X.prog) (w := X.w) (I.ok.hd hc) it lo 1 n
    refine wpAny_with_toks (n := 1) I.tk (W.item i s _ _ hg st fun v h' tk hv st' kk ht => ?_)
    have ht : 0 < tk := ht
    obtain ⟨t, rfl⟩ := hv
    have I1 : Inv X pins σ H { s with heap := h', toks := tk } := I.turned (fun b o hb e => kk b o (by simpa using hb) e) f0 f1 f3 f4 f5
    refine ⟨_, rfl, go_of (s := { s with heap := h', toks := tk }) (n := "range_iterator") st' rfl rfl (by decide) ⟨.int (lo + i), H, I1, ⟨t, ?_⟩, ⟨rfl, rfl⟩, st', fun b hb => (hf b hb).1⟩⟩
    rw [Int.mul_one]
  done := by
    intro X hP hw hK hc i pins s σ H E I hf st hg
    subst hP hw hK
    obtain ⟨f0, f1, f2, f3, f4, f5⟩ := hf it (by simp)
    exact wpAny_pyNext_range_end (I.ok.hd hc) st (by have : n ≤ i := hg; omega) fun h' eb => ⟨rfl, I.turned (t' := s.toks) (fun b o hb e => eb b o hb e) f0 f1 f3 f4 f5⟩
  self := fun _ _ _ _ _ st h => wpAny_pyIter_rangeiter st h
end L2

namespace L2
open PySem PySem.Spec PyProof.Rows
section
variable {X : Cx} {tg : Expr}
def iList (K : PySem.W.Frag) (tl : TE) : TI := fun σ H R => tl σ H fun x H1 => ∃ a, x = .ref a ∧ (∃ xs, SqL K H1 a xs) ∧ R (Itl K a) H1
def iTup (K : PySem.W.Frag) (tl : TE) : TI := fun σ H R => tl σ H fun x H1 => ∃ a, x = .ref a ∧ (∃ xs, SqT K H1 a xs) ∧ R (Itt K a) H1
theorem pi_list {l : Expr} {tl : TE} (hl : PE X l tl) : PI X tg l (iList X.K tl) := by
  intro pins s σ H R I h
  refine thn (hl pins s σ H _ I h) fun v s1 ⟨x, H1, I1, r1, q1⟩ => ?_
  obtain ⟨a, e, ⟨xs, hq⟩, q⟩ := q1
  subst e
  cases r1
  obtain ⟨its, rv, p, hz⟩ := I1.list hq
  refine wpAny_pyIter_list p.isList ?_
  refine ⟨s1.heap.objs.size, [s1.heap.objs.size], _, _, H1, rfl, I1.kept (t' := s1.toks) fun b o e => Heap.get?_push_of_some _ e, turn_list a _, ⟨_, Heap.get?_push_size _ rfl, rfl, rfl⟩, fun b hb => ?_, q⟩
  have e : b = s1.heap.objs.size := by simpa using hb
  subst e
  exact I1.fpOk (Nat.le_refl _) (I1.hok.fresh (Nat.le_refl _))
theorem pi_tup {l : Expr} {tl : TE} (hl : PE X l tl) : PI X tg l (iTup X.K tl) := by
  intro pins s σ H R I h
  refine thn (hl pins s σ H _ I h) fun v s1 ⟨x, H1, I1, r1, q1⟩ => ?_
  obtain ⟨a, e, ⟨xs, hq⟩, q⟩ := q1
  subst e
  cases r1
  obtain ⟨its, rv, p, hz⟩ := I1.tuple hq
  refine wpAny_pyIter_tuple (show s1.heap.IsTuple a its.toArray from p) ?_
  refine ⟨s1.heap.objs.size, [s1.heap.objs.size], _, _, H1, rfl, I1.kept (t' := s1.toks) fun b o e => Heap.get?_push_of_some _ e, turn_tuple a _, ⟨_, Heap.get?_push_size _ rfl, rfl, rfl⟩, fun b hb => ?_, q⟩
  have e : b = s1.heap.objs.size := by simpa using hb
  subst e
  exact I1.fpOk (Nat.le_refl _) (I1.hok.fresh (Nat.le_refl _))
/-- a range object just made, walked -/
theorem range_it {pins : List (Addr × Obj)} {σ : St} {H : Hp} {s : Shared} {R : It → Hp → Prop} {E : Value → Shared → Prop} {lo hi : Int} {t u v : Tok} {tk : Nat} (I : Inv X pins σ H s) (h1 : -(2 ^ 62) ≤ lo) (h2 : lo < 2 ^ 62) (h3 : -(2 ^ 62) ≤ hi) (h4 : hi < 2 ^ 62)
    (q : R (Itr lo (hi - lo).toNat) H) (ht : 0 < tk := by first | exact Nat.succ_pos _ | assumption | exact Inv.tk ‹_› | omega) : wpAny (model X.prog X.w) X.A (pyIter (.ref s.heap.objs.size)) (PIE X pins σ tg R) E { s with heap := s.heap.push { cls := .type "range", data := .fields #[.int lo t, .int hi u, .int 1 v] }, toks := tk } := by
  refine wpAny_pyIter_range (IsRange.new ..) (small_one h1 h2 h3 h4) ?_
  have I1 : Inv X pins σ H { s with heap := s.heap.push { cls := .type "range", data := .fields #[.int lo t, .int hi u, .int 1 v] }, toks := tk } := I.kept fun b o e => Heap.get?_push_of_some _ e
  refine ⟨(s.heap.push { cls := .type "range", data := .fields #[.int lo t, .int hi u, .int 1 v] }).objs.size, [(s.heap.push { cls := .type "range", data := .fields #[.int lo t, .int hi u, .int 1 v] }).objs.size], _, _, H, rfl,
    I1.kept (t' := tk) fun b o e => Heap.get?_push_of_some _ e, turn_range _ lo (hi - lo).toNat, ?_, fun b hb => ?_, q⟩
  · have e1 : lo + ((0 : Nat) : Int) * 1 = lo := by simp
    have e2 : (((hi - lo).toNat : Nat) : Int) - ((0 : Nat) : Int) = Builtin.Range.rangeSize lo hi 1 := by rw [rangeSize_one]; split <;> omega
    show IsRangeIter _ _ (lo + ((0 : Nat) : Int) * 1) ((((hi - lo).toNat : Nat) : Int) - ((0 : Nat) : Int)) 1
    rw [e1, e2]
    exact Heap.get?_push_size _ rfl
  · have e : b = (s.heap.push { cls := .type "range", data := .fields #[.int lo t, .int hi u, .int 1 v] }).objs.size := by simpa using hb
    subst e
    exact I1.fpOk (Nat.le_refl _) (I1.hok.fresh (Nat.le_refl _))
def iRng1 (ta : TA) : TI := fun σ H R => ta σ H fun vs H1 => ∃ j : Int, vs = [.int j] ∧ -(2 ^ 62) ≤ j ∧ j < 2 ^ 62 ∧ R (Itr 0 j.toNat) H1
def iRng2 (ta : TA) : TI := fun σ H R => ta σ H fun vs H1 => ∃ i j : Int, vs = [.int i, .int j] ∧ (-(2 ^ 62) ≤ i ∧ i < 2 ^ 62 ∧ -(2 ^ 62) ≤ j ∧ j < 2 ^ 62) ∧ R (Itr i (j - i).toNat) H1
theorem pi_range1 {a : Expr} {ta : TA} {p pos : Pos} (hg : Gl X "range") (hm : X.mg "range" = none) (ha : PA X [a] ta) (hs : starEach [a] X.env = [(false, eval a X.env)] := by rfl) : PI X tg (.Call (.Name "range" p) [a] [] pos) (iRng1 ta) := by
  intro pins s σ H R I h
  refine Call_ (ld_blt I hg hm boot_range (PyProof.Rows.callWith_type1 (thn (ha pos pins s σ H _ I h) fun us s1 ⟨vs, H1, I1, r1, q1⟩ => ?_) hs rfl))
  obtain ⟨j, e, q1, q2, q⟩ := q1
  subst e
  cases r1 with
  | cons r rr =>
    cases rr
    obtain ⟨t, rfl⟩ := r
    exact call_range_1 (range_it I1 (by omega) (by omega) q1 q2 (by simpa using q))
theorem pi_range2 {a b : Expr} {ta : TA} {p pos : Pos} (hg : Gl X "range") (hm : X.mg "range" = none) (ha : PA X [a, b] ta) (hs : starEach [a, b] X.env = [(false, eval a X.env), (false, eval b X.env)] := by rfl) (hs2 : starEach [b] X.env = [(false, eval b X.env)] := by rfl) :
    PI X tg (.Call (.Name "range" p) [a, b] [] pos) (iRng2 ta) := by
  intro pins s σ H R I h
  refine Call_ (ld_blt I hg hm boot_range (PyProof.Rows.callWith_type1 (thn (ha pos pins s σ H _ I h) fun us s1 ⟨vs, H1, I1, r1, q1⟩ => ?_) (by rw [hs, hs2]) (by rw [hs2]; rfl)))
  obtain ⟨i, j, e, ⟨q1, q2, q3, q4⟩, q⟩ := q1
  subst e
  cases r1 with
  | cons r rr =>
    cases rr with
    | cons r' rr =>
      cases rr
      obtain ⟨t, rfl⟩ := r
      obtain ⟨t', rfl⟩ := r'
      exact call_range_2 (range_it I1 q1 q2 q3 q4 q)

/-! ### for -/
/-- W: the invariant by the turn and a measure; N: what the body is to reach -/
def tFor (wi : TI) (g : TG) (tb : TS) : TS := fun D σ H => wi σ H fun J H1 => ∃ W : Nat → Nat → St → Hp → Prop, (∃ m, W 0 m σ H1) ∧ ∀ i m σ H, W i m σ H →
  (J.stop i H ∧ D.nx σ H) ∨ (J.go i H ∧ ∃ N : St → Hp → Prop, (∀ σ' H', N σ' H' → ∃ m', m' < m ∧ W (i + 1) m' σ' H') ∧ ∀ x H', J.yld i H x H' → g x σ H' fun σ2 H2 => tb { D with nx := N, ct := N, bk := D.nx } σ2 H2)
/-- the records at fp as they stand -/
def pinsAt (fp : List Addr) (h : Heap) : List (Addr × Obj) := fp.filterMap fun b => (h.get? b).map fun o => (b, o)
theorem mem_pinsAt {fp : List Addr} {h : Heap} {b : Addr} {o : Obj} (hb : b ∈ fp) (e : h.get? b = some o) : (b, o) ∈ pinsAt fp h := List.mem_filterMap.mpr ⟨b, hb, by rw [e]; rfl⟩
theorem of_pinsAt {fp : List Addr} {h : Heap} {p : Addr × Obj} (hp : p ∈ pinsAt fp h) : p.1 ∈ fp ∧ h.get? p.1 = some p.2 := by
  obtain ⟨b, hb, e⟩ := List.mem_filterMap.mp hp
  cases q : h.get? b with
  | none => rw [q] at e; cases e
  | some o =>
    rw [q] at e
    have e' : (b, o) = p := Option.some.inj e
    subst e'
    exact ⟨hb, q⟩
theorem Inv.pinned {pins : List (Addr × Obj)} {σ : St} {H : Hp} {s : Shared} {fp : List Addr} (I : Inv X pins σ H s) (hf : ∀ b ∈ fp, FpOk X pins H b) (ho : ∀ b ∈ fp, ∃ o, s.heap.get? b = some o ∧ ∀ v, o.data ≠ .cell v) : Inv X (pins ++ pinsAt fp s.heap) σ H s :=
  I.pins_of fun p hp => (List.mem_append.mp hp).elim (fun z => I.pin p (List.mem_append_right _ z)) fun z => by
    obtain ⟨hb, e⟩ := of_pinsAt z
    obtain ⟨f0, f1, f2, _⟩ := hf p.1 hb
    obtain ⟨o, e', d⟩ := ho p.1 hb
    rw [e] at e'; cases e'
    exact ⟨e, f0, f1, f2, d⟩
theorem Inv.unpinned {pins pl : List (Addr × Obj)} {σ : St} {H : Hp} {s : Shared} (I : Inv X (pins ++ pl) σ H s) : Inv X pins σ H s := I.pins_of fun p hp => I.pin p (List.mem_append_right _ (List.mem_append_left _ hp))
theorem ps_for {iter : Expr} {body : List Stmt} {wi : TI} {g : TG} {tb : TS} {pos : Pos} (hp : PassesOwn (model X.prog X.w) X.A X.env X.xe) (hc : X.calm = true) (hi : PI X tg iter wi) (hg : PG X tg g) (hb : PSs X body tb)
    (hs : ∀ x, foldedSetIterable iter X.env x = pure x := by intro _; rfl) : PS X (.For tg iter body [] pos) (tFor wi g tb) := by
  intro pins s σ H D I h
  refine wpAny_For (thn (hi pins s σ H _ I h) fun v s1 h1 => thn h1 fun itv s2 h2 => ?_) hs
  obtain ⟨it, fp, tn, J, H2, e, I2, T, st2, f2, W, ⟨m0, w0⟩, turn⟩ := h2
  subst e
  -- what stays true of the iterator's objects through the loop
  have stat : ∀ {H' : Hp}, (∀ b ∈ fp, H' b = none) → ∀ b ∈ fp, FpOk X pins H' b := fun hn b hb => ⟨hn b hb, (f2 b hb).2⟩
  refine codeAny_forLoop_any (fun n s' => ∃ i σ' H', Inv X pins σ' H' s' ∧ tn i s'.heap ∧ (∀ b ∈ fp, H' b = none) ∧ W i n σ' H') ?_ m0 ⟨0, σ, H2, I2, st2, fun b hb => (f2 b hb).1, w0⟩
  rintro n s3 ⟨i, σ3, H3, I3, st3, fr3, w3⟩
  rcases turn i n σ3 H3 w3 with ⟨stop, qn⟩ | ⟨go, N, hN, step⟩
  · refine wpAny_passesOwn hp (thn (T.done X rfl rfl rfl hc i pins s3 σ3 H3 X.xe I3 (stat fr3) st3 stop) fun r s4 ⟨hr, I4⟩ => ?_)
    subst hr
    exact wpAny_execs_nil ⟨σ3, H3, I4, qn⟩
  · refine wpAny_passesOwn hp (thn (T.item X rfl rfl rfl hc i pins s3 σ3 H3 X.xe I3 (stat fr3) st3 go) fun r s4 ⟨u, hr, h4⟩ => ?_)
    subst hr
    refine wpAny_passesOwn hp (thn h4 fun _ s5 ⟨x, H5, I5, r5, y5, st5, fr5⟩ => ?_)
    have I5' := I5.pinned (stat fr5) (T.obj _ _ st5)
    refine wpAny_passesOwn hp (thn (hg _ s5 σ3 H5 x u _ I5' r5 (step x H5 y5)) fun _ s6 ⟨σ6, H6, I6, q6⟩ => ?_)
    refine wpAny_passesOwn hp (thn (hb _ s6 σ6 H6 _ I6 q6) fun f s7 q7 => ?_)
    have again : ∀ {σ7 : St} {H7 : Hp}, Inv X (pins ++ pinsAt fp s5.heap) σ7 H7 s7 → N σ7 H7 → ∃ m, m < n ∧ ∃ i σ' H', Inv X pins σ' H' s7 ∧ tn i s7.heap ∧ (∀ b ∈ fp, H' b = none) ∧ W i m σ' H' := fun {σ7 H7} I7 n7 => by
      obtain ⟨m', hm, w7⟩ := hN σ7 H7 n7
      refine ⟨m', hm, i + 1, σ7, H7, I7.unpinned, T.keep _ _ _ st5 fun b hb o e => (I7.pin (b, o) (List.mem_append_right _ (List.mem_append_right _ (mem_pinsAt hb e)))).1, fun b hb => ?_, w7⟩
      obtain ⟨o, e, d⟩ := T.obj _ _ st5 b hb
      exact (I7.pin (b, o) (List.mem_append_right _ (List.mem_append_right _ (mem_pinsAt hb e)))).2.1
    cases f with
    | next => obtain ⟨σ7, H7, I7, n7⟩ := q7; exact again I7 n7
    | cont => obtain ⟨σ7, H7, I7, n7⟩ := q7; exact again I7 n7
    | brk => obtain ⟨σ7, H7, I7, q7⟩ := q7; exact ⟨σ7, H7, I7.unpinned, q7⟩
    | ret v => obtain ⟨x7, σ7, H7, I7, r7, q7⟩ := q7; exact ⟨x7, σ7, H7, I7.unpinned, r7, q7⟩
end

/-! ### the forms one uses -/
/-- over a list that the body leaves as it is -/
theorem for_list {K : PySem.W.Frag} {a : Addr} {xs : List V} {g : TG} {tb : TS} {D : Ends} {σ : St} {H : Hp} (Pv : Nat → St → Hp → Prop) (h0 : Pv 0 σ H) (hl : ∀ i σ H, i ≤ xs.length → Pv i σ H → SqL K H a xs)
    (hs : ∀ i x σ H, xs[i]? = some x → Pv i σ H → g x σ H fun σ2 H2 => tb { D with nx := Pv (i + 1), ct := Pv (i + 1), bk := D.nx } σ2 H2) (hd : ∀ σ H, Pv xs.length σ H → D.nx σ H) :
    ∃ W : Nat → Nat → St → Hp → Prop, (∃ m, W 0 m σ H) ∧ ∀ i m σ H, W i m σ H →
      ((Itl K a).stop i H ∧ D.nx σ H) ∨ ((Itl K a).go i H ∧ ∃ N : St → Hp → Prop, (∀ σ' H', N σ' H' → ∃ m', m' < m ∧ W (i + 1) m' σ' H') ∧ ∀ x H', (Itl K a).yld i H x H' → g x σ H' fun σ2 H2 => tb { D with nx := N, ct := N, bk := D.nx } σ2 H2) := by
  refine ⟨fun i m σ H => m = xs.length - i ∧ i ≤ xs.length ∧ Pv i σ H, ⟨xs.length, by simp, Nat.zero_le _, h0⟩, ?_⟩
  rintro i m σ H ⟨rfl, hi, p⟩
  have q := hl i σ H hi p
  by_cases hlt : i < xs.length
  · refine .inr ⟨⟨xs, xs[i], q, by simp [hlt]⟩, Pv (i + 1), fun σ' H' p' => ⟨xs.length - (i + 1), by omega, rfl, hlt, p'⟩, fun x H' y => ?_⟩
    obtain ⟨e, y⟩ := y
    subst e
    exact hs i x σ _ (y xs q) p
  · have e : i = xs.length := by omega
    subst e
    exact .inl ⟨⟨xs, q, Nat.le_refl _⟩, hd σ H p⟩
theorem for_tup {K : PySem.W.Frag} {a : Addr} {xs : List V} {g : TG} {tb : TS} {D : Ends} {σ : St} {H : Hp} (Pv : Nat → St → Hp → Prop) (h0 : Pv 0 σ H) (hl : ∀ i σ H, i ≤ xs.length → Pv i σ H → SqT K H a xs)
    (hs : ∀ i x σ H, xs[i]? = some x → Pv i σ H → g x σ H fun σ2 H2 => tb { D with nx := Pv (i + 1), ct := Pv (i + 1), bk := D.nx } σ2 H2) (hd : ∀ σ H, Pv xs.length σ H → D.nx σ H) :
    ∃ W : Nat → Nat → St → Hp → Prop, (∃ m, W 0 m σ H) ∧ ∀ i m σ H, W i m σ H →
      ((Itt K a).stop i H ∧ D.nx σ H) ∨ ((Itt K a).go i H ∧ ∃ N : St → Hp → Prop, (∀ σ' H', N σ' H' → ∃ m', m' < m ∧ W (i + 1) m' σ' H') ∧ ∀ x H', (Itt K a).yld i H x H' → g x σ H' fun σ2 H2 => tb { D with nx := N, ct := N, bk := D.nx } σ2 H2) := by
  refine ⟨fun i m σ H => m = xs.length - i ∧ i ≤ xs.length ∧ Pv i σ H, ⟨xs.length, by simp, Nat.zero_le _, h0⟩, ?_⟩
  rintro i m σ H ⟨rfl, hi, p⟩
  have q := hl i σ H hi p
  by_cases hlt : i < xs.length
  · refine .inr ⟨⟨xs, xs[i], q, by simp [hlt]⟩, Pv (i + 1), fun σ' H' p' => ⟨xs.length - (i + 1), by omega, rfl, hlt, p'⟩, fun x H' y => ?_⟩
    obtain ⟨e, y⟩ := y
    subst e
    exact hs i x σ _ (y xs q) p
  · have e : i = xs.length := by omega
    subst e
    exact .inl ⟨⟨xs, q, Nat.le_refl _⟩, hd σ H p⟩
theorem for_range {lo : Int} {n : Nat} {g : TG} {tb : TS} {D : Ends} {σ : St} {H : Hp} (Pv : Nat → St → Hp → Prop) (h0 : Pv 0 σ H)
    (hs : ∀ i σ H, i < n → Pv i σ H → g (.int (lo + i)) σ H fun σ2 H2 => tb { D with nx := Pv (i + 1), ct := Pv (i + 1), bk := D.nx } σ2 H2) (hd : ∀ σ H, Pv n σ H → D.nx σ H) :
    ∃ W : Nat → Nat → St → Hp → Prop, (∃ m, W 0 m σ H) ∧ ∀ i m σ H, W i m σ H →
      ((Itr lo n).stop i H ∧ D.nx σ H) ∨ ((Itr lo n).go i H ∧ ∃ N : St → Hp → Prop, (∀ σ' H', N σ' H' → ∃ m', m' < m ∧ W (i + 1) m' σ' H') ∧ ∀ x H', (Itr lo n).yld i H x H' → g x σ H' fun σ2 H2 => tb { D with nx := N, ct := N, bk := D.nx } σ2 H2) := by
  refine ⟨fun i m σ H => m = n - i ∧ i ≤ n ∧ Pv i σ H, ⟨n, by simp, Nat.zero_le _, h0⟩, ?_⟩
  rintro i m σ H ⟨rfl, hi, p⟩
  by_cases hlt : i < n
  · refine .inr ⟨hlt, Pv (i + 1), fun σ' H' p' => ⟨n - (i + 1), by omega, rfl, hlt, p'⟩, fun x H' y => ?_⟩
    obtain ⟨e, y⟩ := y
    subst e y
    exact hs i σ _ hlt p
  · have e : i = n := by omega
    subst e
    exact .inl ⟨Nat.le_refl _, hd σ H p⟩
/-- while, by a word and a measure of the state -/
theorem while_by {c : TT} {tb : TS} {D : Ends} {σ : St} {H : Hp} (Pv : St → Hp → Prop) (μ : St → Hp → Nat) (h0 : Pv σ H)
    (hs : ∀ σ H, Pv σ H → c σ H fun b H1 => if b = true then tb { D with nx := fun σ' H' => Pv σ' H' ∧ μ σ' H' < μ σ H, ct := fun σ' H' => Pv σ' H' ∧ μ σ' H' < μ σ H, bk := D.nx } σ H1 else D.nx σ H1)
    (mono : ∀ σ H Q Q', (∀ b H1, Q b H1 → Q' b H1) → c σ H Q → c σ H Q') : tWhile c tb D σ H := by
  refine ⟨fun m σ H => m = μ σ H ∧ Pv σ H, ⟨_, rfl, h0⟩, ?_⟩
  rintro m σ H ⟨rfl, p⟩
  refine mono σ H _ _ (fun b H1 q => ?_) (hs σ H p)
  cases b with
  | true => exact ⟨_, fun σ' H' ⟨p', l⟩ => ⟨_, l, rfl, p'⟩, q⟩
  | false => exact q
end L2

namespace L2
open PySem PySem.Spec PyProof.Rows

abbrev R2 := V → V → Hp → VK → Prop
/-- a two-place operation on values: f is binaryOp op, inplaceOp op or compareOp op -/
def OpR (X : Cx) (f : Value → Value → Sem Value) (r : R2) : Prop :=
  ∀ (pins : List (Addr × Obj)) (s : Shared) (σ : St) (H : Hp) (x y : V) (v u : Value) (Q : VK), Inv X pins σ H s → RelV x v → RelV y u → r x y H Q →
    wpAny (model X.prog X.w) X.A (f v u) (EP X pins σ Q) X.xe s
/-- a one-place operation -/
def UnR (X : Cx) (f : Value → Sem Value) (r : V → Hp → VK → Prop) : Prop :=
  ∀ (pins : List (Addr × Obj)) (s : Shared) (σ : St) (H : Hp) (x : V) (v : Value) (Q : VK), Inv X pins σ H s → RelV x v → r x H Q →
    wpAny (model X.prog X.w) X.A (f v) (EP X pins σ Q) X.xe s
/-- a call of a value that is known (a builtin, a type) with values -/
def CallR (X : Cx) (f : Value) (r : List V → Hp → VK → Prop) : Prop :=
  ∀ (pins : List (Addr × Obj)) (s : Shared) (σ : St) (H : Hp) (xs : List V) (us : List Value) (Q : VK), Inv X pins σ H s → Vals xs us → r xs H Q →
    wpAny (model X.prog X.w) X.A (call f us) (EP X pins σ Q) X.xe s
/-- a value's truth -/
def TruR (X : Cx) (r : V → Hp → (Bool → Hp → Prop) → Prop) : Prop :=
  ∀ (pins : List (Addr × Obj)) (s : Shared) (σ : St) (H : Hp) (x : V) (v : Value) (Q : Bool → Hp → Prop), Inv X pins σ H s → RelV x v → r x H Q →
    wpAny (model X.prog X.w) X.A (truthy v) (TP X pins σ Q) X.xe s

def tOp (r : R2) (ta tb : TE) : TE := fun σ H Q => ta σ H fun x H1 => tb σ H1 fun y H2 => r x y H2 Q
def tUn (r : V → Hp → VK → Prop) (ta : TE) : TE := fun σ H Q => ta σ H fun x H1 => r x H1 Q
/-- ints in, under C, and a value out -/
def rI (C : Int → Int → Prop) (g : Int → Int → V) : R2 := fun x y H Q => ∃ i j, x = .int i ∧ y = .int j ∧ C i j ∧ Q (g i j) H
def rI0 (g : Int → Int → V) : R2 := fun x y H Q => ∃ i j, x = .int i ∧ y = .int j ∧ Q (g i j) H
def rU (g : Int → V) : V → Hp → VK → Prop := fun x H Q => ∃ i, x = .int i ∧ Q (g i) H

section
variable {X : Cx} {a b c : Expr} {ta tb tc : TE} {pos : Pos}

theorem binT (ha : PE X a ta) (hb : PE X b tb) {pins : List (Addr × Obj)} {s : Shared} {σ : St} {H : Hp} {R : V → V → Hp → Prop} (I : Inv X pins σ H s)
    (h : ta σ H fun x H1 => tb σ H1 fun y H2 => R x y H2) {Q : Value → Shared → Prop} {f : Value → Value → Sem Value}
    (hf : ∀ v u s2 x y H2, Inv X pins σ H2 s2 → RelV x v → RelV y u → R x y H2 → wpAny (model X.prog X.w) X.A (f v u) Q X.xe s2) :
    wpAny (model X.prog X.w) X.A (eval a X.env) (fun v s₁ => wpAny (model X.prog X.w) X.A (eval b X.env) (fun u s₂ => wpAny (model X.prog X.w) X.A (f v u) Q X.xe s₂) X.xe s₁) X.xe s := by
  refine thn (ha pins s σ H _ I h) fun v s1 ⟨x, H1, I1, r1, q1⟩ => ?_
  refine thn (hb pins s1 σ H1 _ I1 q1) fun u s2 ⟨y, H2, I2, r2, q2⟩ => ?_
  exact hf v u s2 x y H2 I2 r1 r2 q2

theorem pe_op {op : Operator} {r : R2} (ho : OpR X (binaryOp op) r) (ha : PE X a ta) (hb : PE X b tb) : PE X (.BinOp a op b pos) (tOp r ta tb) := by
  intro pins s σ H Q I h
  exact wpAny_BinOp (binT ha hb I h fun v u s2 x y H2 I2 rx ry q => ho pins s2 σ H2 x y v u Q I2 rx ry q)
theorem pe_un {op : UnaryOp} {r : V → Hp → VK → Prop} (ho : UnR X (unaryOp op) r) (ha : PE X a ta) : PE X (.UnaryOp op a pos) (tUn r ta) := by
  intro pins s σ H Q I h
  exact UnaryOp_ (thn (ha pins s σ H _ I h) fun v s1 ⟨x, H1, I1, r1, q1⟩ => ho pins s1 σ H1 x v Q I1 r1 q1)
/-- a op= e at a name: the name's slot i -/
theorem augR {op : Operator} {r : R2} (ho : OpR X (inplaceOp op) r) {pins : List (Addr × Obj)} {s : Shared} {σ : St} {H : Hp} {x y : V} {v u : Value} {Q : VK} (I : Inv X pins σ H s)
    (rx : RelV x v) (ry : RelV y u) (q : r x y H Q) : wpAny (model X.prog X.w) X.A (inplaceOp op v u) (EP X pins σ Q) X.xe s := ho pins s σ H x y v u Q I rx ry q

/-! ### ints -/
theorem opI {f : Value → Value → Sem Value} {C : Int → Int → Prop} {g : Int → Int → Int}
    (rule : ∀ (i j : Int) (t u : Tok) (s : Shared) (Q : Value → Shared → Prop) (E : Value → Shared → Prop), C i j → Q (.int (g i j) s.toks) { s with toks := s.toks + 1 } → wpAny (model X.prog X.w) X.A (f (.int i t) (.int j u)) Q E s) :
    OpR X f (rI C fun i j => .int (g i j)) := by
  intro pins s σ H x y v u Q I rx ry h
  obtain ⟨i, j, rfl, rfl, hc, q⟩ := h
  obtain ⟨t, rfl⟩ := rx
  obtain ⟨t', rfl⟩ := ry
  exact rule i j t t' s _ _ hc ⟨.int (g i j), H, I.tok _, ⟨_, rfl⟩, q⟩
theorem opI0 {f : Value → Value → Sem Value} {g : Int → Int → Int}
    (rule : ∀ (i j : Int) (t u : Tok) (s : Shared) (Q : Value → Shared → Prop) (E : Value → Shared → Prop), Q (.int (g i j) s.toks) { s with toks := s.toks + 1 } → wpAny (model X.prog X.w) X.A (f (.int i t) (.int j u)) Q E s) :
    OpR X f (rI0 fun i j => .int (g i j)) := by
  intro pins s σ H x y v u Q I rx ry h
  obtain ⟨i, j, rfl, rfl, q⟩ := h
  obtain ⟨t, rfl⟩ := rx
  obtain ⟨t', rfl⟩ := ry
  exact rule i j t t' s _ _ ⟨.int (g i j), H, I.tok _, ⟨_, rfl⟩, q⟩
theorem opB0 {f : Value → Value → Sem Value} {g : Int → Int → Bool}
    (rule : ∀ (i j : Int) (t u : Tok) (s : Shared) (Q : Value → Shared → Prop) (E : Value → Shared → Prop), Q (.bool (g i j)) s → wpAny (model X.prog X.w) X.A (f (.int i t) (.int j u)) Q E s) :
    OpR X f (rI0 fun i j => .bl (g i j)) := by
  intro pins s σ H x y v u Q I rx ry h
  obtain ⟨i, j, rfl, rfl, q⟩ := h
  obtain ⟨t, rfl⟩ := rx
  obtain ⟨t', rfl⟩ := ry
  exact rule i j t t' s _ _ ⟨.bl (g i j), H, I, rfl, q⟩

def CDiv (i j : Int) : Prop := 0 < j ∧ j < 1073741824
def CDivN (i j : Int) : Prop := j ≠ 0 ∧ j.natAbs < 1073741824
def CPow (i j : Int) : Prop := 0 ≤ j ∧ j ≤ 1000000 ∧ i.natAbs < 2 ^ 64
def CMul (i j : Int) : Prop := (-(2 ^ 64) < i ∧ i < 2 ^ 64) ∨ (-(2 ^ 64) < j ∧ j < 2 ^ 64)
theorem CMul.ok {i j : Int} (h : CMul i j) : IntMulOk i j := by
  rcases h with ⟨h1, h2⟩ | ⟨h1, h2⟩
  · exact .of_left (intBits_le_64 h1 h2)
  · exact .of_right (intBits_le_64 h1 h2)
theorem two_pow_nn (k : Nat) : (0 : Int) ≤ 2 ^ k := by
  rw [two_pow_cast]
  exact Int.natCast_nonneg _

theorem op_add : OpR X (binaryOp .Add) (rI0 fun i j => .int (i + j)) := opI0 fun _ _ _ _ _ _ _ q => add_int q
theorem op_sub : OpR X (binaryOp .Sub) (rI0 fun i j => .int (i - j)) := opI0 fun _ _ _ _ _ _ _ q => sub_int q
theorem op_mul : OpR X (binaryOp .Mult) (rI CMul fun i j => .int (i * j)) := opI fun _ _ _ _ _ _ _ hc q => mul_int q hc.ok
/-- // by a positive divisor -/
theorem op_fdiv : OpR X (binaryOp .FloorDiv) (rI CDiv fun i j => .int (i / j)) := opI fun i j _ _ _ _ _ hc q => by
  have h1 : (0 : Int) < j := hc.1
  have h2 : j < 1073741824 := hc.2
  exact floordiv_int (by omega) (by rw [Int.fdiv_eq_ediv_of_nonneg i (by omega)]; exact q) (.inl (PyProof.noPylong_small (by omega)))
theorem op_fdivN : OpR X (binaryOp .FloorDiv) (rI CDivN fun i j => .int (i.fdiv j)) := opI fun _ _ _ _ _ _ _ hc q => floordiv_int hc.1 q (.inl (PyProof.noPylong_small hc.2))
/-- % by a positive divisor of any size -/
theorem op_mod : OpR X (binaryOp .Mod) (rI (fun _ j => 0 < j) fun i j => .int (i % j)) := opI fun i j _ _ _ _ _ hc q => by
  have h1 : (0 : Int) < j := hc
  exact mod_int' (by omega) (by rw [Int.fmod_eq_emod_of_nonneg i (by omega)]; exact q)
theorem op_modN : OpR X (binaryOp .Mod) (rI (fun _ j => j ≠ 0) fun i j => .int (i.fmod j)) := opI fun _ _ _ _ _ _ _ hc q => mod_int' hc q
theorem op_pow : OpR X (binaryOp .Pow) (rI CPow fun i j => .int (i ^ j.toNat)) := opI fun _ _ _ _ _ _ _ hc q => pow_int_small hc.1 hc.2.1 hc.2.2 q
theorem op_shl : OpR X (binaryOp .LShift) (rI CPow fun i j => .int (i * 2 ^ j.toNat)) := opI fun _ _ _ _ _ _ _ hc q => lshift_int_small hc.1 hc.2.1 hc.2.2 q
theorem op_shr : OpR X (binaryOp .RShift) (rI (fun _ j => 0 ≤ j) fun i j => .int (i / 2 ^ j.toNat)) := opI fun i j _ _ _ _ _ hc q =>
  rshift_int hc (by rw [Int.fdiv_eq_ediv_of_nonneg i (two_pow_nn _)]; exact q)
theorem op_and : OpR X (binaryOp .BitAnd) (rI0 fun i j => .int (Builtin.bitAnd i j)) := opI0 fun _ _ _ _ _ _ _ q => and_int q
theorem op_or : OpR X (binaryOp .BitOr) (rI0 fun i j => .int (Builtin.bitOr i j)) := opI0 fun _ _ _ _ _ _ _ q => or_int q
theorem op_xor : OpR X (binaryOp .BitXor) (rI0 fun i j => .int (Builtin.bitXor i j)) := opI0 fun _ _ _ _ _ _ _ q => xor_int q

theorem iop_add : OpR X (inplaceOp .Add) (rI0 fun i j => .int (i + j)) := opI0 fun _ _ _ _ _ _ _ q => iadd_int q
theorem iop_sub : OpR X (inplaceOp .Sub) (rI0 fun i j => .int (i - j)) := opI0 fun _ _ _ _ _ _ _ q => isub_int q
theorem iop_mul : OpR X (inplaceOp .Mult) (rI CMul fun i j => .int (i * j)) := opI fun _ _ _ _ _ _ _ hc q => imul_int q hc.ok
theorem iop_fdiv : OpR X (inplaceOp .FloorDiv) (rI CDiv fun i j => .int (i / j)) := opI fun i j _ _ _ _ _ hc q => by
  have h1 : (0 : Int) < j := hc.1
  have h2 : j < 1073741824 := hc.2
  exact ifloordiv_int (by omega) (by rw [Int.fdiv_eq_ediv_of_nonneg i (by omega)]; exact q) (.inl (PyProof.noPylong_small (by omega)))
theorem iop_mod : OpR X (inplaceOp .Mod) (rI (fun _ j => 0 < j) fun i j => .int (i % j)) := opI fun i j _ _ _ _ _ hc q => by
  have h1 : (0 : Int) < j := hc
  exact imod_int (by omega) (by rw [Int.fmod_eq_emod_of_nonneg i (by omega)]; exact q)
theorem iop_shl : OpR X (inplaceOp .LShift) (rI CPow fun i j => .int (i * 2 ^ j.toNat)) := opI fun _ _ _ _ _ _ _ hc q => ilshift_int_small hc.1 hc.2.1 hc.2.2 q
theorem iop_shr : OpR X (inplaceOp .RShift) (rI (fun _ j => 0 ≤ j) fun i j => .int (i / 2 ^ j.toNat)) := opI fun i j _ _ _ _ _ hc q =>
  irshift_int hc (by rw [Int.fdiv_eq_ediv_of_nonneg i (two_pow_nn _)]; exact q)
theorem iop_and : OpR X (inplaceOp .BitAnd) (rI0 fun i j => .int (Builtin.bitAnd i j)) := opI0 fun _ _ _ _ _ _ _ q => iand_int q
theorem iop_or : OpR X (inplaceOp .BitOr) (rI0 fun i j => .int (Builtin.bitOr i j)) := opI0 fun _ _ _ _ _ _ _ q => ior_int q
theorem iop_xor : OpR X (inplaceOp .BitXor) (rI0 fun i j => .int (Builtin.bitXor i j)) := opI0 fun _ _ _ _ _ _ _ q => ixor_int q

theorem unI {f : Value → Sem Value} {g : Int → Int}
    (rule : ∀ (i : Int) (t : Tok) (s : Shared) (Q : Value → Shared → Prop) (E : Value → Shared → Prop), Q (.int (g i) s.toks) { s with toks := s.toks + 1 } → wpAny (model X.prog X.w) X.A (f (.int i t)) Q E s) :
    UnR X f (rU fun i => .int (g i)) := by
  intro pins s σ H x v Q I rx h
  obtain ⟨i, rfl, q⟩ := h
  obtain ⟨t, rfl⟩ := rx
  exact rule i t s _ _ ⟨.int (g i), H, I.tok _, ⟨_, rfl⟩, q⟩
theorem un_neg : UnR X (unaryOp .USub) (rU fun i => .int (-i)) := unI fun _ _ _ _ _ q => neg_int q
theorem un_inv : UnR X (unaryOp .Invert) (rU fun i => .int (Builtin.bitNot i)) := unI fun _ _ _ _ _ q => invert_int q

/-! ### bools among ints: n += (a < b) -/
theorem op_add_ib : OpR X (binaryOp .Add) (fun x y H Q => ∃ i k, x = .int i ∧ y = .bl k ∧ Q (.int (i + b2i k)) H) := by
  intro pins s σ H x y v u Q I rx ry h
  obtain ⟨i, k, rfl, rfl, q⟩ := h
  obtain ⟨t, rfl⟩ := rx
  cases ry
  exact add_int_bool ⟨.int (i + b2i k), H, I.tok _, ⟨_, rfl⟩, q⟩
end

/-! ### comparisons -/
/-- the scalars that == tells apart as data does -/
def scal : V → V → Bool
  | .non, .non => true | .non, .int _ => true | .int _, .non => true | .non, .bl _ => true | .bl _, .non => true | .non, .str _ => true | .str _, .non => true
  | .int _, .int _ => true | .bl _, .bl _ => true | .str _, .str _ => true | .byt _, .byt _ => true
  | .int _, .str _ => true | .str _, .int _ => true | .bl _, .str _ => true | .str _, .bl _ => true
  | _, _ => false
def rEq : R2 := fun x y H Q => scal x y = true ∧ Q (.bl (decide (x = y))) H
def rNe : R2 := fun x y H Q => scal x y = true ∧ Q (.bl (!decide (x = y))) H

theorem dec_int {i j : Int} : decide (V.int i = V.int j) = (i == j) := by
  rw [Bool.eq_iff_iff]
  simp
theorem dec_bl {i j : Bool} : decide (V.bl i = V.bl j) = (i == j) := by
  rw [Bool.eq_iff_iff]
  simp
theorem dec_str {i j : Str} : decide (V.str i = V.str j) = (i == j) := by
  rw [Bool.eq_iff_iff]
  simp
theorem dec_byt {i j : Array UInt8} : decide (V.byt i = V.byt j) = (i.toList == j.toList) := by
  rw [Bool.eq_iff_iff]
  cases i
  cases j
  simp

section
variable {X : Cx} {a b c : Expr} {ta tb tc : TE} {pos : Pos}
theorem fin_bl {pins : List (Addr × Obj)} {σ : St} {H : Hp} {s : Shared} {Q : VK} {k k' : Bool} (I : Inv X pins σ H s) (q : Q (.bl k) H) (e : k = k') : EP X pins σ Q (.bool k') s := by
  subst e
  exact ⟨.bl k, H, I, rfl, q⟩
theorem op_eq : OpR X (compareOp .Eq) rEq := by
  intro pins s σ H x y v u Q I rx ry h
  obtain ⟨hs, q⟩ := h
  cases x with
  | non =>
    cases rx
    cases y with
    | non => cases ry; exact PySem.EqNone.eq_none_none (fin_bl I q (by simp))
    | bl j => cases ry; exact PySem.EqNone.eq_none_bool (fin_bl I q (by simp))
    | int j => obtain ⟨t', rfl⟩ := ry; exact PySem.EqNone.eq_none_int (fin_bl I q (by simp))
    | str j => obtain ⟨t', rfl⟩ := ry; exact PySem.EqNone.eq_none_str (fin_bl I q (by simp))
    | _ => exact absurd (show false = true from hs) Bool.false_ne_true
  | bl i =>
    cases rx
    cases y with
    | non => cases ry; exact PySem.EqNone.eq_bool_none (fin_bl I q (by simp))
    | bl j => cases ry; exact eq_bool (fin_bl I q dec_bl)
    | str j => obtain ⟨t', rfl⟩ := ry; exact PySem.EqMixed.eq_bool_str (fin_bl I q (by simp))
    | _ => exact absurd (show false = true from hs) Bool.false_ne_true
  | int i =>
    obtain ⟨t, rfl⟩ := rx
    cases y with
    | non => cases ry; exact PySem.EqNone.eq_int_none (fin_bl I q (by simp))
    | int j => obtain ⟨t', rfl⟩ := ry; exact eq_int (fin_bl I q dec_int)
    | str j => obtain ⟨t', rfl⟩ := ry; exact PySem.EqMixed.eq_int_str (fin_bl I q (by simp))
    | _ => exact absurd (show false = true from hs) Bool.false_ne_true
  | str i =>
    obtain ⟨t, rfl⟩ := rx
    cases y with
    | non => cases ry; exact PySem.EqNone.eq_str_none (fin_bl I q (by simp))
    | bl j => cases ry; exact PySem.EqMixed.eq_str_bool (fin_bl I q (by simp))
    | int j => obtain ⟨t', rfl⟩ := ry; exact PySem.EqMixed.eq_str_int (fin_bl I q (by simp))
    | str j => obtain ⟨t', rfl⟩ := ry; exact eq_str (fin_bl I q dec_str)
    | _ => exact absurd (show false = true from hs) Bool.false_ne_true
  | byt i =>
    obtain ⟨t, rfl⟩ := rx
    cases y with
    | byt j => obtain ⟨t', rfl⟩ := ry; exact PySem.W.eq_bytes (fin_bl I q dec_byt)
    | _ => exact absurd (show false = true from hs) Bool.false_ne_true
  | _ => cases y <;> exact absurd (show false = true from hs) Bool.false_ne_true
theorem op_ne : OpR X (compareOp .NotEq) rNe := by
  intro pins s σ H x y v u Q I rx ry h
  obtain ⟨hs, q⟩ := h
  cases x with
  | non =>
    cases rx
    cases y with
    | non => cases ry; exact PySem.EqNone.ne_none_none (fin_bl I q (by simp))
    | bl j => cases ry; exact PySem.EqNone.ne_none_bool (fin_bl I q (by simp))
    | int j => obtain ⟨t', rfl⟩ := ry; exact PySem.EqNone.ne_none_int (fin_bl I q (by simp))
    | str j => obtain ⟨t', rfl⟩ := ry; exact PySem.EqNone.ne_none_str (fin_bl I q (by simp))
    | _ => exact absurd (show false = true from hs) Bool.false_ne_true
  | bl i =>
    cases rx
    cases y with
    | non => cases ry; exact PySem.EqNone.ne_bool_none (fin_bl I q (by simp))
    | bl j => cases ry; exact ne_bool (fin_bl I q (congrArg not dec_bl))
    | str j => obtain ⟨t', rfl⟩ := ry; exact PySem.EqMixed.ne_bool_str (fin_bl I q (by simp))
    | _ => exact absurd (show false = true from hs) Bool.false_ne_true
  | int i =>
    obtain ⟨t, rfl⟩ := rx
    cases y with
    | non => cases ry; exact PySem.EqNone.ne_int_none (fin_bl I q (by simp))
    | int j => obtain ⟨t', rfl⟩ := ry; exact ne_int (fin_bl I q (congrArg not dec_int))
    | str j => obtain ⟨t', rfl⟩ := ry; exact PySem.EqMixed.ne_int_str (fin_bl I q (by simp))
    | _ => exact absurd (show false = true from hs) Bool.false_ne_true
  | str i =>
    obtain ⟨t, rfl⟩ := rx
    cases y with
    | non => cases ry; exact PySem.EqNone.ne_str_none (fin_bl I q (by simp))
    | bl j => cases ry; exact PySem.EqMixed.ne_str_bool (fin_bl I q (by simp))
    | int j => obtain ⟨t', rfl⟩ := ry; exact PySem.EqMixed.ne_str_int (fin_bl I q (by simp))
    | str j => obtain ⟨t', rfl⟩ := ry; exact ne_str (fin_bl I q (congrArg not dec_str))
    | _ => exact absurd (show false = true from hs) Bool.false_ne_true
  | byt i =>
    obtain ⟨t, rfl⟩ := rx
    cases y with
    | byt j => obtain ⟨t', rfl⟩ := ry; exact PySem.W.ne_bytes (fin_bl I q (congrArg not dec_byt))
    | _ => exact absurd (show false = true from hs) Bool.false_ne_true
  | _ => cases y <;> exact absurd (show false = true from hs) Bool.false_ne_true

theorem op_lt : OpR X (compareOp .Lt) (rI0 fun i j => .bl (decide (i < j))) := opB0 fun _ _ _ _ _ _ _ q => lt_int q
theorem op_le : OpR X (compareOp .LtE) (rI0 fun i j => .bl (decide (i ≤ j))) := opB0 fun _ _ _ _ _ _ _ q => le_int q
theorem op_gt : OpR X (compareOp .Gt) (rI0 fun i j => .bl (decide (j < i))) := opB0 fun _ _ _ _ _ _ _ q => gt_int q
theorem op_ge : OpR X (compareOp .GtE) (rI0 fun i j => .bl (decide (j ≤ i))) := opB0 fun _ _ _ _ _ _ _ q => ge_int q
theorem op_lt_str : OpR X (compareOp .Lt) (fun x y H Q => ∃ i j, x = .str i ∧ y = .str j ∧ Q (.bl (decide (i.cps.toList < j.cps.toList))) H) := by
  intro pins s σ H x y v u Q I rx ry h
  obtain ⟨i, j, rfl, rfl, q⟩ := h
  obtain ⟨t, rfl⟩ := rx
  obtain ⟨t', rfl⟩ := ry
  exact lt_str (fin_bl I q rfl)
/-- the one string within the other -/
theorem op_in_str : OpR X (compareOp .In) (fun x y H Q => ∃ i j, x = .str i ∧ y = .str j ∧ Q (.bl (!(Builtin.Str.occurrences j i 0 j.length 1).isEmpty)) H) := by
  intro pins s σ H x y v u Q I rx ry h
  obtain ⟨i, j, rfl, rfl, q⟩ := h
  obtain ⟨t, rfl⟩ := rx
  obtain ⟨t', rfl⟩ := ry
  exact in_str (fin_bl I q rfl)

/-- is None, is not None: the right side a value none -/
theorem op_isN : OpR X (compareOp .Is) (fun x y H Q => y = .non ∧ Q (.bl (decide (x = .non))) H) := by
  intro pins s σ H x y v u Q I rx ry h
  obtain ⟨rfl, q⟩ := h
  cases ry
  refine is_none_gen (fin_bl I q ?_)
  cases x <;> first
    | (cases rx; rfl)
    | (obtain ⟨t, rfl⟩ := rx; rfl)
theorem op_notN : OpR X (compareOp .IsNot) (fun x y H Q => y = .non ∧ Q (.bl (!decide (x = .non))) H) := by
  intro pins s σ H x y v u Q I rx ry h
  obtain ⟨rfl, q⟩ := h
  cases ry
  refine isnot_none_gen (fin_bl I q ?_)
  cases x <;> first
    | (cases rx; rfl)
    | (obtain ⟨t, rfl⟩ := rx; rfl)

theorem op_notin_str : OpR X (compareOp .NotIn) (fun x y H Q => ∃ i j, x = .str i ∧ y = .str j ∧ Q (.bl (!(!(Builtin.Str.occurrences j i 0 j.length 1).isEmpty))) H) := by
  intro pins s σ H x y v u Q I rx ry h
  obtain ⟨i, j, rfl, rfl, q⟩ := h
  obtain ⟨t, rfl⟩ := rx
  obtain ⟨t', rfl⟩ := ry
  exact notIn_str (fin_bl I q rfl)
/-- is, is not of two objects that are tracked lists or instances -/
def isObj : HO → Bool
  | .lst _ => true
  | .ins _ _ _ => true
  | _ => false
theorem obj_there {pins : List (Addr × Obj)} {s : Shared} {σ : St} {H : Hp} {a : Addr} {o : HO} (I : Inv X pins σ H s) (h : H a = some o) (p : isObj o = true) : ∃ ob, s.heap.get? a = some ob ∧ ob.cls ≠ .type "tuple" := by
  cases o with
  | lst xs =>
    obtain ⟨_, its, n, _, e⟩ : xs.length ≤ sizeLine ∧ ∃ (its : List Value) (n : Nat), Vals xs its ∧ s.heap.get? a = some { cls := .type "list", data := .seq its.toArray n } := I.hok a _ h
    exact ⟨_, e, (by show Value.type "list" ≠ .type "tuple"; decide +kernel)⟩
  | ins C dx fs =>
    have x := I.hok a _ h
    obtain ⟨_, _, _, e, _⟩ := x
    exact ⟨_, e, (by show Value.ref C ≠ .type "tuple"; exact fun z => by cases z)⟩
  | _ => exact absurd (show false = true from p) Bool.false_ne_true
theorem op_is_ref : OpR X (compareOp .Is) (fun x y H Q => ∃ a b oa ob, x = .ref a ∧ y = .ref b ∧ H a = some oa ∧ isObj oa = true ∧ H b = some ob ∧ isObj ob = true ∧ Q (.bl (decide (a = b))) H) := by
  intro pins s σ H x y v u Q I rx ry h
  obtain ⟨a, b, oa, ob, rfl, rfl, ha, pa, hb, pb, q⟩ := h
  cases rx
  cases ry
  obtain ⟨o1, e1, n1⟩ := obj_there I ha pa
  obtain ⟨o2, e2, _⟩ := obj_there I hb pb
  by_cases z : a = b
  · subst z
    exact wpAny_is_ref_self (fin_bl I q (by simp))
  · exact wpAny_is_ref_other z e1 e2 n1 (fin_bl I q (by simp [z]))
theorem op_isnot_ref : OpR X (compareOp .IsNot) (fun x y H Q => ∃ a b oa ob, x = .ref a ∧ y = .ref b ∧ H a = some oa ∧ isObj oa = true ∧ H b = some ob ∧ isObj ob = true ∧ Q (.bl (!decide (a = b))) H) := by
  intro pins s σ H x y v u Q I rx ry h
  obtain ⟨a, b, oa, ob, rfl, rfl, ha, pa, hb, pb, q⟩ := h
  cases rx
  cases ry
  obtain ⟨o1, e1, n1⟩ := obj_there I ha pa
  obtain ⟨o2, e2, _⟩ := obj_there I hb pb
  by_cases z : a = b
  · subst z
    exact wpAny_isNot_ref_self (fin_bl I q (by simp))
  · exact wpAny_isNot_ref_other z e1 e2 n1 (fin_bl I q (by simp [z]))

/-- two rules for one operation: by cases -/
theorem OpR.or {f : Value → Value → Sem Value} {r r' : R2} (h : OpR X f r) (h' : OpR X f r') : OpR X f (fun x y H Q => r x y H Q ∨ r' x y H Q) := by
  intro pins s σ H x y v u Q I rx ry q
  rcases q with q | q
  · exact h pins s σ H x y v u Q I rx ry q
  · exact h' pins s σ H x y v u Q I rx ry q

theorem nomark (b : Expr) {op : CmpOp} (h : op ≠ .In := by decide) (h2 : op ≠ .NotIn := by decide) : behindInMarks op b = false := by
  have e1 : (op == CmpOp.In) = false := by cases op <;> first | rfl | exact absurd rfl h
  have e2 : (op == CmpOp.NotIn) = false := by cases op <;> first | rfl | exact absurd rfl h2
  cases b <;> simp [behindInMarks, e1, e2]
/-- a comparison as a value; hm: nomark b, or (for in, not in) by with_unfolding_all rfl -/
theorem pe_cmpR {op : CmpOp} {r : R2} (ho : OpR X (compareOp op) r) (ha : PE X a ta) (hb : PE X b tb) (hm : behindInMarks op b = false) : PE X (.Compare a [op] [b] pos) (tOp r ta tb) := by
  intro pins s σ H Q I h
  exact wpAny_Compare1 (binT ha hb I h fun v u s2 x y H2 I2 rx ry q => ho pins s2 σ H2 x y v u Q I2 rx ry q) hm
/-- a reading of a value as a test -/
def tTest (t : TE) : TT := fun σ H Q => t σ H fun x H' => ∃ k, x = .bl k ∧ Q k H'
theorem pt_cmpR {op : CmpOp} {r : R2} (ho : OpR X (compareOp op) r) (ha : PE X a ta) (hb : PE X b tb) (hm : behindInMarks op b = false) : PT X (.Compare a [op] [b] pos) (tTest (tOp r ta tb)) := by
  intro pins s σ H Q I h
  refine wpAny_isTrue_Compare1 (thn (ha pins s σ H _ I h) fun v s1 ⟨x, H1, I1, r1, q1⟩ => thn (hb pins s1 σ H1 _ I1 q1) fun u s2 ⟨y, H2, I2, r2, q2⟩ =>
    thn (ho pins s2 σ H2 x y v u _ I2 r1 r2 q2) fun c s3 ⟨z, H3, I3, r3, k, e, q3⟩ => ?_) hm
  subst e
  cases r3
  exact wpAny_truthy_bool ⟨H3, I3, q3⟩
/-- a op1 b op2 c -/
def tChain (r r' : R2) (ta tb tc : TE) : TE := fun σ H Q => ta σ H fun x H1 => tb σ H1 fun y H2 => r x y H2 fun z H3 => ∃ k, z = .bl k ∧
  (if k = true then tc σ H3 fun w' H4 => r' y w' H4 Q else Q (.bl false) H3)
theorem pe_chain {op op' : CmpOp} {r r' : R2} (ho : OpR X (compareOp op) r) (ho' : OpR X (compareOp op') r') (ha : PE X a ta) (hb : PE X b tb) (hc : PE X c tc)
    (hm : lastMarks [op, op'] [b, c] = false := by with_unfolding_all rfl) : PE X (.Compare a [op, op'] [b, c] pos) (tChain r r' ta tb tc) := by
  intro pins s σ H Q I h
  refine Compare_chain (thn (ha pins s σ H _ I h) fun v s1 ⟨x, H1, I1, r1, q1⟩ => chain_link (thn (hb pins s1 σ H1 _ I1 q1) fun u s2 ⟨y, H2, I2, r2, q2⟩ =>
    thn (ho pins s2 σ H2 x y v u _ I2 r1 r2 q2) fun d s3 ⟨z, H3, I3, r3, k, e, q3⟩ => ?_)) hm
  subst e
  cases r3
  refine wpAny_truthy_bool ?_
  cases k with
  | false => exact ite_ff ⟨.bl false, H3, I3, rfl, q3⟩
  | true => exact ite_tt (chain_last (thn (hc pins s3 σ H3 _ I3 q3) fun w' s4 ⟨z', H4, I4, r4, q4⟩ => ho' pins s4 σ H4 y z' u w' Q I4 r2 r4 q4))
theorem pt_chain {op op' : CmpOp} {r r' : R2} (ho : OpR X (compareOp op) r) (ho' : OpR X (compareOp op') r') (ha : PE X a ta) (hb : PE X b tb) (hc : PE X c tc)
    (hm : lastMarks [op, op'] [b, c] = false := by with_unfolding_all rfl) : PT X (.Compare a [op, op'] [b, c] pos) (tTest (tChain r r' ta tb tc)) := by
  intro pins s σ H Q I h
  refine isTrue_chain (thn (ha pins s σ H _ I h) fun v s1 ⟨x, H1, I1, r1, q1⟩ => test_link (thn (hb pins s1 σ H1 _ I1 q1) fun u s2 ⟨y, H2, I2, r2, q2⟩ =>
    thn (ho pins s2 σ H2 x y v u _ I2 r1 r2 q2) fun d s3 ⟨z, H3, I3, r3, k, e, q3⟩ => ?_)) hm
  subst e
  cases r3
  refine wpAny_truthy_bool ?_
  cases k with
  | false =>
    obtain ⟨k', e', q'⟩ := q3
    cases e'
    exact ite_ff ⟨H3, I3, q'⟩
  | true =>
    refine ite_tt (test_last (thn (hc pins s3 σ H3 _ I3 q3) fun w' s4 ⟨z', H4, I4, r4, q4⟩ => thn (ho' pins s4 σ H4 y z' u w' _ I4 r2 r4 q4) fun d' s5 ⟨z2, H5, I5, r5, k2, e2, q5⟩ => ?_))
    subst e2
    cases r5
    exact wpAny_truthy_bool ⟨H5, I5, q5⟩

/-! ### truth -/
/-- a value's truth by the abstract heap -/
def TruV (K : PySem.W.Frag) (x : V) (H : Hp) (k : Bool) : Prop :=
  match x with
  | .non => k = false
  | .bl b => k = b
  | .int i => k = (i != 0)
  | .str y => y.length ≤ sizeLine ∧ k = ((y.length : Int) != 0)
  | .byt y => y.size ≤ sizeLine ∧ k = ((y.size : Int) != 0)
  | .ref p => (∃ xs, SqL K H p xs ∧ k = !xs.isEmpty) ∨ (∃ xs, SqT K H p xs ∧ k = !xs.isEmpty) ∨ ∃ kvs, H p = some (.dK kvs) ∧ k = !kvs.isEmpty
  | _ => False
theorem isEmpty_kv {κ : Type} {kvs : List (κ × V)} {vs : List (κ × Value)} (r : KV kvs vs) : (!vs.isEmpty) = !kvs.isEmpty := by
  cases r <;> rfl
theorem isEmpty_of {xs : List V} {its : List Value} (r : Vals xs its) : (!its.toArray.isEmpty) = !xs.isEmpty := by
  cases r <;> simp
theorem line63 : (sizeLine : Nat) < 2 ^ 63 := by rw [sizeLine_eq]; decide
theorem tru_ok : TruR X (fun x H Q => ∃ k, TruV X.K x H k ∧ Q k H) := by
  intro pins s σ H x v Q I rx h
  obtain ⟨k, e, q⟩ := h
  have hl := line63
  have hs : sizeLine = 16777216 := sizeLine_eq
  cases x with
  | non =>
    cases rx
    have e' : k = false := e
    subst e'
    exact truthy_none ⟨H, I, q⟩
  | bl b =>
    cases rx
    have e' : k = b := e
    subst e'
    exact wpAny_truthy_bool ⟨H, I, q⟩
  | int i =>
    obtain ⟨t, rfl⟩ := rx
    have e' : k = (i != 0) := e
    subst e'
    exact PySem.P.truthy_int ⟨H, I, q⟩
  | str y =>
    obtain ⟨t, rfl⟩ := rx
    obtain ⟨hy, e'⟩ : y.length ≤ sizeLine ∧ k = ((y.length : Int) != 0) := e
    subst e'
    exact PySem.P.truthy_str (by omega) ⟨H, I.tok _, q⟩
  | byt y =>
    obtain ⟨t, rfl⟩ := rx
    obtain ⟨hy, e'⟩ : y.size ≤ sizeLine ∧ k = ((y.size : Int) != 0) := e
    subst e'
    exact PySem.W.truthy_bytes (by omega) ⟨H, I.tok _, q⟩
  | ref p =>
    cases rx
    have e' : (∃ xs, SqL X.K H p xs ∧ k = !xs.isEmpty) ∨ (∃ xs, SqT X.K H p xs ∧ k = !xs.isEmpty) ∨ ∃ kvs, H p = some (.dK kvs) ∧ k = !kvs.isEmpty := e
    rcases e' with ⟨xs, hx, e'⟩ | ⟨xs, hx, e'⟩ | ⟨kvs, hx, e'⟩
    · subst e'
      obtain ⟨its, r, pl, hz⟩ := I.list hx
      have hlen := r.length
      exact wpAny_truthy_list pl.isList (by simp only [List.size_toArray]; omega) ⟨H, I.tok _, by rw [isEmpty_of r]; exact q⟩
    · subst e'
      obtain ⟨its, r, pl, hz⟩ := I.tuple hx
      have hlen := r.length
      exact truthy_tuple pl (by simp only [List.size_toArray]; omega) ⟨H, I.tok _, by rw [isEmpty_of r]; exact q⟩
    · subst e'
      obtain ⟨hz, hS, vs, r, m⟩ : kvs.length ≤ sizeLine ∧ (p == sysModules) = false ∧ ∃ vs, KV kvs vs ∧ s.heap.DictOf (mixKind X.prog X.w) p vs := I.hok p _ hx
      have hlen : kvs.length = vs.length := Paired.length r
      exact wpAny_truthy_dict hS m (by omega) ⟨H, I.tok _, by rw [isEmpty_kv r]; exact q⟩
  | _ => exact (show False from e).elim
/-- any expression whose test is its value's truth (a name, a call, a subscript, a field ..: he by fun _ => rfl) -/
theorem pt_truth (ha : PE X a ta) (he : ∀ whole, isTrue a X.env whole = (do let v ← whole; standAt a.pos; holding [v] (truthy v))) :
    PT X a (fun σ H Q => ta σ H fun x H' => ∃ k, TruV X.K x H' k ∧ Q k H') := by
  intro pins s σ H Q I h
  exact isTrue_plain (thn (ha pins s σ H _ I h) fun v s1 ⟨x, H1, I1, r1, q1⟩ => tru_ok pins s1 σ H1 x v Q I1 r1 q1) (he _)

/-! ### strs and bytes -/
theorem pe_byt {x : List UInt8} {k : Nat} : PE X (.Constant (.bytes x) k pos) (fun _ H Q => Q (.byt x.toArray) H) := fun _ _ _ H _ I h => PySem.W.Constant_bytes ⟨.byt x.toArray, H, I.tok _, ⟨_, rfl⟩, h⟩
theorem op_add_str : OpR X (binaryOp .Add) (fun x y H Q => ∃ i j, x = .str i ∧ y = .str j ∧ i.length + j.length ≤ sizeLine ∧ Q (.str (i ++ j)) H) := by
  intro pins s σ H x y v u Q I rx ry h
  obtain ⟨i, j, rfl, rfl, hz, q⟩ := h
  obtain ⟨t, rfl⟩ := rx
  obtain ⟨t', rfl⟩ := ry
  exact wpAny_with_toks (n := 1) I.tk (add_str (fun t' tk ht => ⟨.str (i ++ j), H, I.tok _ ht, ⟨_, rfl⟩, q⟩) hz)
theorem iop_add_str : OpR X (inplaceOp .Add) (fun x y H Q => ∃ i j, x = .str i ∧ y = .str j ∧ i.length + j.length ≤ sizeLine ∧ Q (.str (i ++ j)) H) := by
  intro pins s σ H x y v u Q I rx ry h
  obtain ⟨i, j, rfl, rfl, hz, q⟩ := h
  obtain ⟨t, rfl⟩ := rx
  obtain ⟨t', rfl⟩ := ry
  exact wpAny_with_toks (n := 1) I.tk (iadd_str (fun t' tk ht => ⟨.str (i ++ j), H, I.tok _ ht, ⟨_, rfl⟩, q⟩) hz)
theorem op_add_byt : OpR X (binaryOp .Add) (fun x y H Q => ∃ i j, x = .byt i ∧ y = .byt j ∧ i.size + j.size ≤ 16777216 ∧ Q (.byt (i ++ j)) H) := by
  intro pins s σ H x y v u Q I rx ry h
  obtain ⟨i, j, rfl, rfl, hz, q⟩ := h
  obtain ⟨t, rfl⟩ := rx
  obtain ⟨t', rfl⟩ := ry
  exact wpAny_with_toks (n := 1) I.tk (PySem.W.KBy.add_bytes hz (fun t' tk ht => ⟨.byt (i ++ j), H, I.tok _ ht, ⟨_, rfl⟩, q⟩))

def PlainIxT (b : Expr) : Prop := ∀ o i, subscripted b false o i = operate [o, i] (getItem o i)
/-- s[i], 0 ≤ i < len -/
theorem pe_item_str (ha : PE X a ta) (hb : PE X b tb) (hs : PlainIxT b) :
    PE X (.Subscript a b pos) (tOp (fun x y H Q => ∃ z i c, x = .str z ∧ y = .int i ∧ 0 ≤ i ∧ i < 2 ^ 63 ∧ i < z.length ∧ z.cps[i.toNat]? = some c ∧ Q (.str ⟨#[c]⟩) H) ta tb) := by
  intro pins s σ H Q I h
  refine Subscript_ (binT ha hb I h fun v u s2 x y H2 I2 rx ry q => ?_)
  obtain ⟨z, i, c, rfl, rfl, h0, h63, h1, hc, q⟩ := q
  obtain ⟨t, rfl⟩ := rx
  obtain ⟨t', rfl⟩ := ry
  have e : seqIndex? i z.length = some i.toNat := PySem.StrLaws.seqIndex_nonneg h0 h1
  exact tail_any (typeIs_str s2 z t) slot_str_getitem.lookup (getItem_str (c := c) (by
    have e1 : decide (i < -(2 ^ 63 : Int)) = false := decide_eq_false (by omega)
    have e2 : decide (i ≥ 2 ^ 63) = false := decide_eq_false (by omega)
    rw [e1, e2] <;> rfl) (by rw [e]; exact hc) ⟨.str ⟨#[c]⟩, H2, I2.tok _, ⟨_, rfl⟩, q⟩) (hs _ _)
/-- b[i], 0 ≤ i < len -/
theorem pe_item_byt (ha : PE X a ta) (hb : PE X b tb) (hs : PlainIxT b) :
    PE X (.Subscript a b pos) (tOp (fun x y H Q => ∃ (z : List UInt8) (i : Int), x = .byt z.toArray ∧ y = .int i ∧ z.length ≤ sizeLine ∧ 0 ≤ i ∧ i < z.length ∧ Q (.int ((z.getD i.toNat 0).toNat : Nat)) H) ta tb) := by
  intro pins s σ H Q I h
  refine Subscript_ (binT ha hb I h fun v u s2 x y H2 I2 rx ry q => ?_)
  obtain ⟨z, i, rfl, rfl, hz, h0, h1, q⟩ := q
  obtain ⟨t, rfl⟩ := rx
  obtain ⟨t', rfl⟩ := ry
  have hl : sizeLine = 16777216 := sizeLine_eq
  exact tail_any (PySem.W.typeIs_bytes s2 z.toArray t) PySem.W.FB.slot_bytes_getitem.lookup (PySem.W.getItem_bytes (by omega) h0 h1 ⟨.int ((z.getD i.toNat 0).toNat : Nat), H2, I2.tok _, ⟨_, rfl⟩, q⟩) (hs _ _)

/-! ### scalar builtins, by CallR -/
theorem vals1 {x : V} {us : List Value} (r : Vals [x] us) : ∃ u, us = [u] ∧ RelV x u := by
  cases r with
  | cons r1 r2 => cases r2; exact ⟨_, rfl, r1⟩
theorem vals2 {x y : V} {us : List Value} (r : Vals [x, y] us) : ∃ u w', us = [u, w'] ∧ RelV x u ∧ RelV y w' := by
  cases r with
  | cons r1 r2 =>
    cases r2 with
    | cons r3 r4 => cases r4; exact ⟨_, _, rfl, r1, r3⟩
theorem call_abs : CallR X (.builtin "abs") (fun xs H Q => ∃ i, xs = [.int i] ∧ Q (.int (if i < 0 then -i else i)) H) := by
  intro pins s σ H xs us Q I r h
  obtain ⟨i, rfl, q⟩ := h
  obtain ⟨u, rfl, t, rfl⟩ := vals1 r
  exact wpAny_with_toks (n := 1) I.tk (call_abs_int fun u tk ht => ⟨.int (if i < 0 then -i else i), H, I.tok _ ht, ⟨_, rfl⟩, q⟩)
theorem call_max2 (hc : X.calm = true) : CallR X (.builtin "max") (fun xs H Q => ∃ i j, xs = [.int i, .int j] ∧ Q (.int (if j > i then j else i)) H) := by
  intro pins s σ H xs us Q I r h
  obtain ⟨i, j, rfl, q⟩ := h
  obtain ⟨u, w', rfl, ⟨t, rfl⟩, ⟨t', rfl⟩⟩ := vals2 r
  refine wpAny_with_toks (n := 1) I.tk (max_two_ints (I.ok.hd hc) fun h' tk k ht => ⟨_, H, I.kept k ht, ?_, q⟩)
  by_cases hj : j > i
  · rw [if_pos hj, if_pos hj]; exact ⟨_, rfl⟩
  · rw [if_neg hj, if_neg hj]; exact ⟨_, rfl⟩
theorem call_min2 (hc : X.calm = true) : CallR X (.builtin "min") (fun xs H Q => ∃ i j, xs = [.int i, .int j] ∧ Q (.int (if j < i then j else i)) H) := by
  intro pins s σ H xs us Q I r h
  obtain ⟨i, j, rfl, q⟩ := h
  obtain ⟨u, w', rfl, ⟨t, rfl⟩, ⟨t', rfl⟩⟩ := vals2 r
  refine wpAny_with_toks (n := 1) I.tk (min_two_ints (I.ok.hd hc) fun h' tk k ht => ⟨_, H, I.kept k ht, ?_, q⟩)
  by_cases hj : j < i
  · rw [if_pos hj, if_pos hj]; exact ⟨_, rfl⟩
  · rw [if_neg hj, if_neg hj]; exact ⟨_, rfl⟩
theorem call_int1 : CallR X (.type "int") (fun xs H Q => (∃ i, xs = [.int i] ∧ Q (.int i) H) ∨ ∃ k, xs = [.bl k] ∧ Q (.int (if k then 1 else 0)) H) := by
  intro pins s σ H xs us Q I r h
  rcases h with ⟨i, rfl, q⟩ | ⟨k, rfl, q⟩
  · obtain ⟨u, rfl, t, rfl⟩ := vals1 r
    exact call_int_int ⟨.int i, H, I, ⟨_, rfl⟩, q⟩
  · obtain ⟨u, rfl, r1⟩ := vals1 r
    cases r1
    exact call_int_bool ⟨.int (if k then 1 else 0), H, I.tok _, ⟨_, rfl⟩, q⟩
theorem call_bool1 : CallR X (.type "bool") (fun xs H Q => (∃ i, xs = [.int i] ∧ Q (.bl (i != 0)) H) ∨ ∃ k, xs = [.bl k] ∧ Q (.bl k) H) := by
  intro pins s σ H xs us Q I r h
  rcases h with ⟨i, rfl, q⟩ | ⟨k, rfl, q⟩
  · obtain ⟨u, rfl, t, rfl⟩ := vals1 r
    exact call_bool_int ⟨.bl (i != 0), H, I, rfl, q⟩
  · obtain ⟨u, rfl, r1⟩ := vals1 r
    cases r1
    exact call_bool_bool ⟨.bl k, H, I, rfl, q⟩
theorem call_str_int : CallR X (.type "str") (fun xs H Q => ∃ i, xs = [.int i] ∧ i.natAbs.log2 < 1920 ∧ Q (.str (toString i)) H) := by
  intro pins s σ H xs us Q I r h
  obtain ⟨i, rfl, hz, q⟩ := h
  obtain ⟨u, rfl, t, rfl⟩ := vals1 r
  exact PySem.P.str_of_int hz ⟨.str _, H, I.tok _, ⟨_, rfl⟩, q⟩
theorem call_ord : CallR X (.builtin "ord") (fun xs H Q => ∃ x, xs = [.str x] ∧ x.length = 1 ∧ Q (.int (x.cps.getD 0 0 : Nat)) H) := by
  intro pins s σ H xs us Q I r h
  obtain ⟨x, rfl, hz, q⟩ := h
  obtain ⟨u, rfl, t, rfl⟩ := vals1 r
  exact ord_of_one hz ⟨.int _, H, I.tok _, ⟨_, rfl⟩, q⟩
theorem call_chr : CallR X (.builtin "chr") (fun xs H Q => ∃ i, xs = [.int i] ∧ 0 ≤ i ∧ i ≤ 1114111 ∧ Q (.str ⟨#[i.toNat]⟩) H) := by
  intro pins s σ H xs us Q I r h
  obtain ⟨i, rfl, h0, h1, q⟩ := h
  obtain ⟨u, rfl, t, rfl⟩ := vals1 r
  exact chr_of_range h0 h1 ⟨.str _, H, I.tok _, ⟨_, rfl⟩, q⟩
/-- len of a str, a bytes, a list, a tuple -/
def LenV (K : PySem.W.Frag) (x : V) (H : Hp) (n : Nat) : Prop :=
  match x with
  | .str y => y.length ≤ sizeLine ∧ n = y.length
  | .byt y => y.size ≤ sizeLine ∧ n = y.size
  | .ref p => (∃ xs, SqL K H p xs ∧ n = xs.length) ∨ ∃ xs, SqT K H p xs ∧ n = xs.length
  | _ => False
theorem call_len : CallR X (.builtin "len") (fun xs H Q => ∃ x n, xs = [x] ∧ LenV X.K x H n ∧ Q (.int n) H) := by
  intro pins s σ H xs us Q I r h
  obtain ⟨x, n, rfl, e, q⟩ := h
  obtain ⟨u, rfl, rx⟩ := vals1 r
  have hl := line63
  have hs : sizeLine = 16777216 := sizeLine_eq
  cases x with
  | str y =>
    obtain ⟨t, rfl⟩ := rx
    obtain ⟨hy, e'⟩ : y.length ≤ sizeLine ∧ n = y.length := e
    subst e'
    exact len_str (by omega) ⟨.int _, H, I.tok _, ⟨_, rfl⟩, q⟩
  | byt y =>
    obtain ⟨t, rfl⟩ := rx
    obtain ⟨hy, e'⟩ : y.size ≤ sizeLine ∧ n = y.size := e
    subst e'
    exact PySem.W.len_bytes (by omega) ⟨.int _, H, I.tok _, ⟨_, rfl⟩, q⟩
  | ref p =>
    cases rx
    have e' : (∃ xs, SqL X.K H p xs ∧ n = xs.length) ∨ ∃ xs, SqT X.K H p xs ∧ n = xs.length := e
    rcases e' with ⟨xs, hx, e'⟩ | ⟨xs, hx, e'⟩
    · subst e'
      obtain ⟨its, r', pl, hz⟩ := I.list hx
      have hlen := r'.length
      exact Calls.call_len_list pl.isList (by simp only [List.size_toArray]; omega) ⟨.int xs.length, H, I.tok _, ⟨_, by simp only [List.size_toArray]; rw [hlen]⟩, q⟩
    · subst e'
      obtain ⟨its, r', pl, hz⟩ := I.tuple hx
      have hlen := r'.length
      exact len_tuple pl (by simp only [List.size_toArray]; omega) ⟨.int xs.length, H, I.tok _, ⟨_, by simp only [List.size_toArray]; rw [hlen]⟩, q⟩
  | _ => exact (show False from e).elim
/-- divmod: a new tuple -/
theorem call_divmod : CallR X (.builtin "divmod") (fun xs H Q => ∃ i j, xs = [.int i, .int j] ∧ CDiv i j ∧ ∀ p, H p = none → Q (.ref p) (upd H p (.tup [.int (i / j), .int (i % j)]))) := by
  intro pins s σ H xs us Q I r h
  obtain ⟨i, j, rfl, ⟨h1, h2⟩, q⟩ := h
  obtain ⟨u, w', rfl, ⟨t, rfl⟩, ⟨t', rfl⟩⟩ := vals2 r
  refine divmod_int (by omega) ?_ (.inl (PyProof.noPylong_small (by omega)))
  rw [Int.fdiv_eq_ediv_of_nonneg i (by omega), Int.fmod_eq_emod_of_nonneg i (by omega)]
  have hn : H s.heap.objs.size = none := I.hok.fresh (Nat.le_refl _)
  refine ⟨.ref s.heap.objs.size, _, ?_, rfl, q _ hn⟩
  refine I.laid (fun b o e => Heap.get?_push_of_some _ e) (Nat.le_refl _) ⟨by simp only [List.length_cons, List.length_nil]; rw [sizeLine_eq]; decide, [.int (i / j) s.toks, .int (i % j) (s.toks + 1)], .cons ⟨_, rfl⟩ (.cons ⟨_, rfl⟩ .nil), ?_⟩
  exact ⟨_, Heap.get?_push_size s.heap rfl, rfl, 0, rfl⟩
end
end L2

namespace L2
open PySem PySem.Spec PyProof.Rows

/-! ### an instance, its attributes a map -/
structure ObjM (h : Heap) (x dx C : Addr) (mA : Str → Option Value) : Prop where
  obj : h.get? x = some (PySem.W.instObj C dx)
  ns : h.Ns1 dx mA
  ne : dx ≠ x

theorem lookIn_ns {h : Heap} {dx : Addr} {mA : Str → Option Value} (n : h.Ns1 dx mA) : ∃ od, h.get? dx = some od ∧ ∀ name, PySem.W.lookIn name od = some (mA name) := by
  obtain ⟨o, es, ep, ho, hd, hk, _, hm⟩ := n
  refine ⟨o, ho, fun name => ?_⟩
  have e := hm name
  unfold nsFind findBy at e
  rw [← Array.find?_toList] at e
  unfold PySem.W.lookIn
  rw [hd]
  dsimp only
  split
  · rename_i y q
    rw [q] at e
    exact congrArg some e
  · rename_i q
    rw [q] at e
    have a : es.toList.any (·.refKey) = false := by
      rw [List.any_eq_false]
      intro y hy
      obtain ⟨z, t, hkey⟩ := hk y (Array.mem_toList_iff.mp hy)
      simp [DictEntry.refKey, hkey]
    have a' : ¬ es.toList.any (·.refKey) = true := by rw [a]; exact Bool.false_ne_true
    rw [if_neg a']
    exact congrArg some e

theorem ObjM.look {h : Heap} {x dx C : Addr} {mA : Str → Option Value} (I : ObjM h x dx C mA) : ∃ od, PySem.W.InstAt h x (PySem.W.instObj C dx) C (some od) ∧ ∀ name, PySem.W.lookIn name od = some (mA name) :=
  let ⟨od, ho, hl⟩ := lookIn_ns I.ns
  ⟨od, ⟨I.obj, rfl, rfl, ho⟩, hl⟩

section
variable {prog : Program} {w : World} {A : Around} {E : Value → Shared → Prop} {s : Shared} {K : PySem.W.Frag} {x dx C f : Addr} {mA : Str → Option Value} {name : Str} {v : Value}

theorem get_map {expr : Bool} {Q : Value → Shared → Prop} (X : K.In s.heap) (I : ObjM s.heap x dx C mA) (hg : PySem.W.plainGet K C name = true) (hh : PySem.W.hasDictIn K C = true)
    (ha : PySem.W.findIn K (.ref C) name = some none) (hv : mA name = some v) (hv' : PySem.W.handedIn v = true) (h : Q v { s with toks := s.toks + 1 }) :
    wpAny (model prog w) A (getAttr (.ref x) name expr) Q E s := by
  obtain ⟨od, J, hl⟩ := I.look
  exact PySem.W.get_value X J (PySem.W.plainGet_of hg).1 (PySem.W.findObj_own hh ha rfl (by rw [hl, hv])) hv' h

theorem get_const {expr : Bool} {a : Value} {Q : Value → Shared → Prop} (X : K.In s.heap) (I : ObjM s.heap x dx C mA) (hg : PySem.W.plainGet K C name = true) (hh : PySem.W.hasDictIn K C = true)
    (ha : PySem.W.findIn K (.ref C) name = some (some a)) (hn : PySem.W.specialIn K a "__get__" = some none) (hc : PySem.W.copiedNames.contains name = false) (hv : mA name = none) (hv' : PySem.W.handedIn a = true)
    (h : Q a { s with toks := s.toks + 1 }) : wpAny (model prog w) A (getAttr (.ref x) name expr) Q E s := by
  obtain ⟨od, J, hl⟩ := I.look
  exact PySem.W.get_value X J (PySem.W.plainGet_of hg).1 (PySem.W.findObj_cls hh ha hn hv' hc (by rw [hl, hv])) hv' h

theorem get_meth {pl : Sem Bool} {Q : Value × List Value → Shared → Prop} (X : K.In s.heap) (I : ObjM s.heap x dx C mA) (hg : PySem.W.plainGet K C name = true)
    (hf : PySem.W.findIn K (.ref C) name = some (some (.ref f))) (ht : PySem.W.isFn K (.ref f) = true) (hv : mA name = none) (h : Q (.ref f, [.ref x]) s) :
    wpAny (model prog w) A (getMethod (.ref x) name pl) Q E s := by
  obtain ⟨od, J, hl⟩ := I.look
  exact PySem.W.method_fn X J (PySem.W.plainGet_of hg).1 (PySem.W.plainGet_of hg).2 hf (beq_iff_eq.mp ht) (by show (PySem.W.lookIn name od).map (·.isSome) = some false; rw [hl, hv]; rfl) h

theorem set_map {ns : List Str} {Q : Unit → Shared → Prop} (X : K.In s.heap) (I : ObjM s.heap x dx C mA)
    (hs : PySem.W.findIn K (.ref C) "__setattr__" = some (some (.builtin "object.__setattr__"))) (hp : PySem.W.plainOver K C = true) (ht : PySem.W.takerIn K C name = some none) (hh : PySem.W.hasDictIn K C = true)
    (hw : PySem.Within mA ns) (hsz : ns.length ≤ sizeLine)
    (h : ∀ h', ObjM h' x dx C (fun y => if y = name then some v else mA y) → Heap.SameBut dx s.heap h' → Q () { s with heap := h', toks := s.toks + 2 }) :
    wpAny (model prog w) A (setAttr (.ref x) name v) Q E s := by
  obtain ⟨od, J, hl⟩ := I.look
  refine PySem.W.set_plain X J hs (PySem.W.osa_open (s := { s with toks := s.toks + 1 }) (r := none) X J hp ht fun b => ?_)
  obtain ⟨cd, hc, hd'⟩ := PySem.W.any_some hh
  have hx : s.heap.get? x = some ⟨.ref C, some dx, .plain, #[]⟩ := I.obj
  refine wpAny_bind (wpAny_pure (wpAny_bind (wpAny_bind (wpAny_loadPart hx (wpAny_bind (PySem.W.Looks.here (s := { s with toks := s.toks + 1 }) (PySem.W.looks_clsIn X hc) ?_))))))
  rw [hd']
  refine wpAny_pure (a := some dx) (wpAny_bind (wpAny_pure (wpAny_bind ?_)))
  refine wpAny_nsSet1 (s := { s with toks := s.toks + 1 }) I.ns fun h' hn2 hs2 => ?_
  obtain ⟨oD, esD, epD, hoD, hdD, hcD⟩ := hn2.count (PySem.Within.cons name v hw)
  refine wpAny_bind (wpAny_lookBehind hoD (by rw [hdD]; exact pastItsLine_dict (Nat.le_trans hcD (by rw [List.length_cons]; omega))) ?_)
  exact wpAny_pure (h _ ⟨(hs2.2 _ (Ne.symm I.ne)).trans I.obj, hn2, I.ne⟩ hs2)

/-- C(..): the dict at the heap's end, the instance behind it; then its __init__ -/
theorem make_map {R : Result → Shared → Prop} {vs : List Value} {kw : List (Str × Value)} (X : K.In s.heap) (hm : PySem.W.makesIn K C = true)
    (hi : PySem.W.findIn K (.ref C) "__init__" = some (some (.ref f))) (hf : PySem.W.typeIn K (.ref f) = some (.type "function"))
    (h : codeAny (model prog w) (A.under (.builtin "type.__call__" ⟨.ref C :: vs, kw⟩)) (.call (.ref f) ⟨.ref (s.heap.objs.size + 1) :: vs, kw⟩) (PySem.W.InitBack (s.heap.objs.size + 1) R)
      { s with heap := (s.heap.push PySem.W.emptyDict).push (PySem.W.instObj C s.heap.objs.size) }) :
    codeAny (model prog w) A (.call (.ref C) ⟨vs, kw⟩) R s := by
  obtain ⟨hh, g, d, t, os⟩ := s
  exact PySem.W.make_core (PySem.W.makes_of X hm) (PySem.W.looks_findIn X hi) (fun self => PySem.W.bind_fn X self hf) (.inl rfl) h
/-- C() where there is no __init__ but object's -/
theorem make_map0 {R : Result → Shared → Prop} (X : K.In s.heap) (hm : PySem.W.makesIn K C = true)
    (hi : PySem.W.findIn K (.ref C) "__init__" = some (some (.builtin "object.__init__")))
    (hb : ∀ self, PySem.W.Looks (model prog w) s.heap (bindSpecial (.builtin "object.__init__") self) (.builtin "object.__init__", [self]))
    (h : codeAny (model prog w) (A.under (.builtin "type.__call__" ⟨[.ref C], []⟩)) (.call (.builtin "object.__init__") ⟨[.ref (s.heap.objs.size + 1)], []⟩) (PySem.W.InitBack (s.heap.objs.size + 1) R)
      { s with heap := (s.heap.push PySem.W.emptyDict).push (PySem.W.instObj C s.heap.objs.size) }) :
    codeAny (model prog w) A (.call (.ref C) ⟨[], []⟩) R s := by
  obtain ⟨hh, g, d, t, os⟩ := s
  exact PySem.W.make_core (PySem.W.makes_of X hm) (PySem.W.looks_findIn X hi) hb (.inr ⟨rfl, rfl⟩) h
end

/-! ### the attributes as a list of pairs -/
def putF (f : Str) (v : V) : List (Str × V) → List (Str × V)
  | [] => [(f, v)]
  | (g, x) :: r => if g = f then (g, v) :: r else (g, x) :: putF f v r
theorem lookup_putF (f g : Str) (v : V) : ∀ fs : List (Str × V), (putF f v fs).lookup g = if g = f then some v else fs.lookup g
  | [] => by
    show List.lookup g [(f, v)] = _
    by_cases h : g = f
    · have hb : (g == f) = true := beq_iff_eq.mpr h
      simp only [List.lookup, hb, if_pos h]
    · have hb : (g == f) = false := beq_eq_false_iff_ne.mpr h
      simp only [List.lookup, hb, if_neg h]
  | (k, x) :: r => by
    have ih := lookup_putF f g v r
    rw [show putF f v ((k, x) :: r) = (if k = f then (k, v) :: r else (k, x) :: putF f v r) from rfl]
    by_cases hk : k = f
    · rw [if_pos hk]
      by_cases h : g = k
      · have hb : (g == k) = true := beq_iff_eq.mpr h
        simp only [List.lookup, hb, if_pos (h.trans hk)]
      · have hb : (g == k) = false := beq_eq_false_iff_ne.mpr h
        simp only [List.lookup, hb, if_neg (fun e : g = f => h (e.trans hk.symm))]
    · rw [if_neg hk]
      by_cases h : g = k
      · have hb : (g == k) = true := beq_iff_eq.mpr h
        simp only [List.lookup, hb, if_neg (fun e : g = f => hk (h.symm.trans e))]
      · have hb : (g == k) = false := beq_eq_false_iff_ne.mpr h
        simp only [List.lookup, hb]
        exact ih
theorem keys_putF (f : Str) (v : V) : ∀ fs : List (Str × V), f ∈ (putF f v fs).map (·.1) ∧ ∀ g, g ∈ fs.map (·.1) → g ∈ (putF f v fs).map (·.1)
  | [] => ⟨by simp [putF], fun g h => by simp at h⟩
  | (k, x) :: r => by
    obtain ⟨i1, i2⟩ := keys_putF f v r
    rw [show putF f v ((k, x) :: r) = (if k = f then (k, v) :: r else (k, x) :: putF f v r) from rfl]
    by_cases hk : k = f
    · rw [if_pos hk]
      subst hk
      exact ⟨by simp, fun g h => by simpa using h⟩
    · rw [if_neg hk]
      refine ⟨?_, fun g h => ?_⟩
      · rw [List.map_cons]
        exact List.mem_cons_of_mem _ i1
      · rw [List.map_cons] at h ⊢
        rcases List.mem_cons.mp h with e | e
        · exact List.mem_cons.mpr (.inl e)
        · exact List.mem_cons_of_mem _ (i2 g e)
theorem length_putF (f : Str) (v : V) : ∀ fs : List (Str × V), (putF f v fs).length ≤ fs.length + 1
  | [] => by simp [putF]
  | (k, x) :: r => by
    have ih := length_putF f v r
    rw [show putF f v ((k, x) :: r) = (if k = f then (k, v) :: r else (k, x) :: putF f v r) from rfl]
    by_cases hk : k = f
    · rw [if_pos hk, List.length_cons, List.length_cons]; omega
    · rw [if_neg hk, List.length_cons, List.length_cons]; omega

theorem RelO.some_of {v : V} {o : Option Value} (r : RelO (some v) o) : ∃ u, o = some u ∧ RelV v u := by
  cases o with
  | none => exact (show False from r).elim
  | some u => exact ⟨u, rfl, r⟩
theorem RelO.none_of {o : Option Value} (r : RelO none o) : o = none := by
  cases o with
  | none => rfl
  | some u => exact (show False from r).elim
theorem handed_of {v : V} {u : Value} (r : RelV v u) : PySem.W.handedIn u = true := by
  cases v with
  | non => cases (show u = Value.none from r); rfl
  | bl b => cases (show u = Value.bool b from r); rfl
  | int i => obtain ⟨t, e⟩ := (show ∃ t, u = Value.int i t from r); cases e; rfl
  | str x => obtain ⟨t, e⟩ := (show ∃ t, u = Value.str x t from r); cases e; rfl
  | byt b => obtain ⟨t, e⟩ := (show ∃ t, u = Value.bytes b t from r); cases e; rfl
  | flt b => obtain ⟨t, e⟩ := (show ∃ t, u = Value.float b t from r); cases e; rfl
  | ref a => cases (show u = Value.ref a from r); rfl
  | ty n => cases (show u = Value.type n from r); rfl

section
variable {P : Program} {w : World} {H H' : Hp} {h h' : Heap} {a C dx : Addr} {fs fs' : List (Str × V)}
theorem ins_get (hok : HOk P w H h) (e : H a = some (.ins C dx fs)) : ∃ mA, ObjM h a dx C mA ∧ (∀ f, RelO (fs.lookup f) (mA f)) ∧ PySem.Within mA (fs.map (·.1)) ∧ fs.length ≤ 1000 ∧ H dx = some (.own a) := by
  obtain ⟨d, z, ne, ob, mA, n, r, q⟩ := (show ObjOk P w H h a (.ins C dx fs) from hok a _ e)
  exact ⟨mA, ⟨ob, n, ne⟩, r, q, z, d⟩
end

/-! ### what of the text a class must have -/
structure Cls (K : PySem.W.Frag) (C : Addr) : Prop where
  pg : PySem.W.plainGet K C Str.empty = true
  hd : PySem.W.hasDictIn K C = true
  po : PySem.W.plainOver K C = true
  sa : PySem.W.findIn K (.ref C) "__setattr__" = some (some (.builtin "object.__setattr__"))
theorem Cls.get {K : PySem.W.Frag} {C : Addr} (c : Cls K C) (f : Str) : PySem.W.plainGet K C f = true := c.pg
/-- no class of it has the name -/
def NoAttr (K : PySem.W.Frag) (C : Addr) (f : Str) : Prop := PySem.W.findIn K (.ref C) f = some none
theorem NoAttr.taker {K : PySem.W.Frag} {C : Addr} {f : Str} (n : NoAttr K C f) : PySem.W.takerIn K C f = some none := by
  unfold PySem.W.takerIn
  rw [show PySem.W.findIn K (.ref C) f = some none from n]
  rfl
/-- a constant of the class -/
structure Con (K : PySem.W.Frag) (C : Addr) (f : Str) (v : V) (u : Value) : Prop where
  at_ : PySem.W.findIn K (.ref C) f = some (some u)
  rel : RelV v u
  get : PySem.W.specialIn K u "__get__" = some none
  cp : PySem.W.copiedNames.contains f = false
/-- a method: a plain def of the class or of one above it -/
structure Meth (K : PySem.W.Frag) (C : Addr) (m : Str) (f : Addr) : Prop where
  at_ : PySem.W.findIn K (.ref C) m = some (some (.ref f))
  fn : PySem.W.isFn K (.ref f) = true
  kp : PySem.W.keepIn K (.ref f) = true

section
variable {X : Cx} {pins : List (Addr × Obj)} {σ : St} {H : Hp} {s : Shared} {a C dx : Addr} {fs : List (Str × V)} {f : Str} {v : V} {A : Around} {E : Value → Shared → Prop}

theorem getattr_ok {b : Bool} {Q : Value → Shared → Prop} (I : Inv X pins σ H s) (e : H a = some (.ins C dx fs)) (c : Cls X.K C) (n : NoAttr X.K C f) (l : fs.lookup f = some v)
    (h : ∀ u s', Inv X pins σ H s' → RelV v u → Q u s') : wpAny (model X.prog X.w) A (getAttr (.ref a) f b) Q E s := by
  obtain ⟨mA, O, r, _, _, _⟩ := ins_get I.hok e
  obtain ⟨u, hu, ru⟩ := RelO.some_of (v := v) (o := mA f) (by rw [← l]; exact r f)
  exact get_map I.kIn O (c.get f) c.hd n hu (handed_of ru) (h u _ (I.tok _) ru)

theorem getcon_ok {b : Bool} {u : Value} {Q : Value → Shared → Prop} (I : Inv X pins σ H s) (e : H a = some (.ins C dx fs)) (c : Cls X.K C) (k : Con X.K C f v u) (l : fs.lookup f = none)
    (h : ∀ s', Inv X pins σ H s' → Q u s') : wpAny (model X.prog X.w) A (getAttr (.ref a) f b) Q E s := by
  obtain ⟨mA, O, r, _, _, _⟩ := ins_get I.hok e
  have hn : mA f = none := RelO.none_of (by rw [← l]; exact r f)
  exact get_const I.kIn O (c.get f) c.hd k.at_ k.get k.cp hn (handed_of k.rel) (h _ (I.tok _))

theorem getmeth_ok {m : Str} {g : Addr} {pl : Sem Bool} {Q : Value × List Value → Shared → Prop} (I : Inv X pins σ H s) (e : H a = some (.ins C dx fs)) (c : Cls X.K C) (k : Meth X.K C m g) (l : fs.lookup m = none)
    (h : Q (.ref g, [.ref a]) s) : wpAny (model X.prog X.w) A (getMethod (.ref a) m pl) Q E s := by
  obtain ⟨mA, O, r, _, _, _⟩ := ins_get I.hok e
  have hn : mA m = none := RelO.none_of (by rw [← l]; exact r m)
  exact get_meth I.kIn O (c.get m) k.at_ k.fn hn h

theorem setattr_ok {y : V} {u : Value} {Q : Unit → Shared → Prop} (I : Inv X pins σ H s) (e : H a = some (.ins C dx fs)) (c : Cls X.K C) (n : NoAttr X.K C f) (hl : fs.length < 1000) (ry : RelV y u)
    (h : ∀ s', Inv X pins σ (upd H a (.ins C dx (putF f y fs))) s' → Q () s') : wpAny (model X.prog X.w) A (setAttr (.ref a) f u) Q E s := by
  obtain ⟨mA, O, r, wi, _, ho⟩ := ins_get I.hok e
  have hz : (fs.map (·.1)).length ≤ sizeLine := by rw [List.length_map, sizeLine_eq]; omega
  refine set_map I.kIn O c.sa c.po n.taker c.hd wi hz fun h' O' sb => h _ ?_
  have hd : ∃ o, h'.get? dx = some o := let ⟨o, _, _, e', _⟩ := O'.ns; ⟨o, e'⟩
  refine I.write (x := a) (e := dx) (by rw [e]; exact True.intro) (.inr ho) (fun b q hb z => (sb.2 b hb).trans z) hd ?_
  refine ⟨by rw [upd_ne O.ne]; exact ho, ?_, O.ne, O'.obj, _, O'.ns, fun g => ?_, fun g hg => ?_⟩
  · have := length_putF f y fs; omega
  · show RelO ((putF f y fs).lookup g) (if g = f then some u else mA g)
    rw [lookup_putF]
    by_cases q : g = f
    · rw [if_pos q, if_pos q]; exact ry
    · rw [if_neg q, if_neg q]; exact r g
  · by_cases q : g = f
    · rw [q]; exact (keys_putF f y fs).1
    · refine (keys_putF f y fs).2 g (wi g fun z => hg ?_)
      show (if g = f then some u else mA g) = none
      rw [if_neg q]; exact z

/-- a new instance, tracked, without attributes -/
theorem Inv.made (I : Inv X pins σ H s) : Inv X pins σ (upd (upd H s.heap.objs.size (.own (s.heap.objs.size + 1))) (s.heap.objs.size + 1) (.ins C s.heap.objs.size []))
    { s with heap := (s.heap.push PySem.W.emptyDict).push (PySem.W.instObj C s.heap.objs.size) } := by
  have e1 : (s.heap.push PySem.W.emptyDict).get? s.heap.objs.size = some PySem.W.emptyDict := Heap.get?_push_size s.heap rfl
  have e2 : ((s.heap.push PySem.W.emptyDict).push (PySem.W.instObj C s.heap.objs.size)).get? (s.heap.objs.size + 1) = some (PySem.W.instObj C s.heap.objs.size) := by
    have := Heap.get?_push_size (s.heap.push PySem.W.emptyDict) (o := PySem.W.instObj C s.heap.objs.size) rfl
    rwa [Heap.size_push] at this
  have e3 : (s.heap.push PySem.W.emptyDict).Ns s.heap.objs.size (fun _ => none) := ⟨PySem.W.emptyDict, #[], _, e1, rfl, (fun e he => absurd he (by simp)), fun _ => rfl⟩
  have I1 := I.laid (a := s.heap.objs.size) (o := .own (s.heap.objs.size + 1)) (h' := s.heap.push PySem.W.emptyDict) (t' := s.toks) (fun b u q => Heap.get?_push_of_some _ q) (Nat.le_refl _) ⟨_, e1⟩
  refine I1.laid (a := s.heap.objs.size + 1) (o := .ins C s.heap.objs.size []) (t' := s.toks) (fun b u q => Heap.get?_push_of_some _ q) (Nat.le_of_eq (Heap.size_push _ _)) ?_
  have ne : s.heap.objs.size ≠ s.heap.objs.size + 1 := Nat.ne_of_lt (Nat.lt_succ_self _)
  refine ⟨by rw [upd_ne ne, upd_same], Nat.zero_le _, ne, e2, fun _ => none, (Heap.Ns1.of_empty e3).at fun o q => Heap.get?_push_of_some _ q, fun _ => True.intro, fun y hy => absurd rfl hy⟩

/-- e.f where nothing but the object is asked: through attributeBase (super) and the last hold -/
theorem attr_of {prog : Program} {w : World} {env : Env} {e : Expr} {f : Str} {pos : Pos} {s : Shared} {Q : Value → Shared → Prop} (hb : attributeBase e f env (eval e env) = eval e env)
    (h : wpAny (model prog w) A (eval e env) (fun o s₁ => wpAny (model prog w) A (getAttr o f true) Q E s₁) E s) : wpAny (model prog w) A (eval (.Attribute e f pos) env) Q E s :=
  Attribute_any_ h (by rw [arm_eval_Attribute, hb])
end

/-! ### readings and rules -/
/-- e.f, an attribute of the instance -/
def tFld (K : PySem.W.Frag) (ta : TE) (f : Str) : TE := fun σ H Q => ta σ H fun x H1 => ∃ a C dx fs v, x = .ref a ∧ H1 a = some (.ins C dx fs) ∧ Cls K C ∧ NoAttr K C f ∧ fs.lookup f = some v ∧ Q v H1
/-- e.f, a constant of the class -/
def tCon (K : PySem.W.Frag) (ta : TE) (f : Str) : TE := fun σ H Q => ta σ H fun x H1 => ∃ a C dx fs v u, x = .ref a ∧ H1 a = some (.ins C dx fs) ∧ Cls K C ∧ Con K C f v u ∧ fs.lookup f = none ∧ Q v H1
/-- e.f = value -/
def sFld (K : PySem.W.Frag) (ta tv : TE) (f : Str) : TS := fun D σ H => tv σ H fun y H1 => ta σ H1 fun x H2 => ∃ a C dx fs, x = .ref a ∧ H2 a = some (.ins C dx fs) ∧ Cls K C ∧ NoAttr K C f ∧ fs.length < 1000 ∧
  D.nx σ (upd H2 a (.ins C dx (putF f y fs)))
/-- an augmented operator on two values -/
def InOp (X : Cx) (op : Operator) (rd : V → V → Hp → VK → Prop) : Prop :=
  ∀ (pins : List (Addr × Obj)) (s : Shared) (σ : St) (H : Hp) (x y : V) (u v : Value) (Q : VK), Inv X pins σ H s → RelV x u → RelV y v → rd x y H Q → wpAny (model X.prog X.w) X.A (inplaceOp op u v) (EP X pins σ Q) X.xe s
/-- e.f op= value -/
def sFldAug (K : PySem.W.Frag) (ta tv : TE) (rd : V → V → Hp → VK → Prop) (f : Str) : TS := fun D σ H => ta σ H fun x H1 => ∃ a C dx fs v, x = .ref a ∧ H1 a = some (.ins C dx fs) ∧ Cls K C ∧ NoAttr K C f ∧ fs.lookup f = some v ∧
  tv σ H1 fun y H2 => rd v y H2 fun z H3 => ∃ dx' fs', H3 a = some (.ins C dx' fs') ∧ fs'.length < 1000 ∧ D.nx σ (upd H3 a (.ins C dx' (putF f z fs')))

section
variable {X : Cx} {o e value : Expr} {f : Str} {pos pos' tpos : Pos} {ta tv : TE}
theorem pe_fld (he : PE X e ta) (hb : attributeBase e f X.env (eval e X.env) = eval e X.env) : PE X (.Attribute e f pos) (tFld X.K ta f) := by
  intro pins s σ H Q I h
  refine attr_of hb (thn (he pins s σ H _ I h) fun u s1 ⟨x, H1, I1, rx, a, C, dx, fs, v, ex, ea, c, n, l, q⟩ => ?_)
  subst ex
  obtain rfl : u = Value.ref a := rx
  exact getattr_ok I1 ea c n l fun u' s2 I2 ru => ⟨v, H1, I2, ru, q⟩
theorem pe_con (he : PE X e ta) (hb : attributeBase e f X.env (eval e X.env) = eval e X.env) : PE X (.Attribute e f pos) (tCon X.K ta f) := by
  intro pins s σ H Q I h
  refine attr_of hb (thn (he pins s σ H _ I h) fun u s1 ⟨x, H1, I1, rx, a, C, dx, fs, v, u0, ex, ea, c, k, l, q⟩ => ?_)
  subst ex
  obtain rfl : u = Value.ref a := rx
  exact getcon_ok I1 ea c k l fun s2 I2 => ⟨v, H1, I2, k.rel, q⟩
theorem ps_fld (ha : PE X o ta) (hv : PE X value tv) (hs : swapsWith value (some (.Attribute o f pos')) pos.line X.env = pure false) : PS X (.Assign [.Attribute o f pos'] value pos) (sFld X.K ta tv f) := by
  intro pins s σ H D I h
  refine plainObj_wpAny_Assign_Attribute (thn (hv pins s σ H _ I h) fun u s1 ⟨y, H1, I1, ry, q⟩ => thn (ha pins s1 σ H1 _ I1 q) fun ov s2 ⟨x, H2, I2, rx, a, C, dx, fs, ex, ea, c, n, l, q2⟩ => ?_) hs
  subst ex
  obtain rfl : ov = Value.ref a := rx
  exact setattr_ok I2 ea c n l ry fun s3 I3 => ⟨σ, _, I3, q2⟩
theorem ps_fldaug {op : Operator} {rd : V → V → Hp → VK → Prop} (ha : PE X o ta) (hv : PE X value tv) (hop : InOp X op rd) : PS X (.AugAssign (.Attribute o f tpos) op value pos) (sFldAug X.K ta tv rd f) := by
  intro pins s σ H D I h
  refine wpAny_AugAssign_AttributeAny (thn (ha pins s σ H _ I h) fun ov s1 ⟨x, H1, I1, rx, a, C, dx, fs, v, ex, ea, c, n, l, q⟩ => ?_)
  subst ex
  obtain rfl : ov = Value.ref a := rx
  refine getattr_ok I1 ea c n l fun u s2 I2 ru => thn (hv pins s2 σ H1 _ I2 q) fun w3 s3 ⟨y, H2, I3, ry, q3⟩ => thn (hop pins s3 σ H2 v y u w3 _ I3 ru ry q3) fun w4 s4 ⟨z, H3, I4, rz, dx', fs', ea', l', q4⟩ => ?_
  exact setattr_ok I4 ea' c n l' rz fun s5 I5 => ⟨σ, _, I5, q4⟩
def rAdd : V → V → Hp → VK → Prop := fun x y H Q => ∃ i j, x = .int i ∧ y = .int j ∧ Q (.int (i + j)) H
def rSub : V → V → Hp → VK → Prop := fun x y H Q => ∃ i j, x = .int i ∧ y = .int j ∧ Q (.int (i - j)) H
theorem in_add : InOp X .Add rAdd := by
  rintro pins s σ H x y u v Q I rx ry ⟨i, j, rfl, rfl, q⟩
  obtain ⟨t, rfl⟩ := (show ∃ t, u = Value.int i t from rx)
  obtain ⟨t', rfl⟩ := (show ∃ t', v = Value.int j t' from ry)
  exact PyProof.Rows.iadd_int ⟨.int (i + j), H, I.tok _, ⟨_, rfl⟩, q⟩
theorem in_sub : InOp X .Sub rSub := by
  rintro pins s σ H x y u v Q I rx ry ⟨i, j, rfl, rfl, q⟩
  obtain ⟨t, rfl⟩ := (show ∃ t, u = Value.int i t from rx)
  obtain ⟨t', rfl⟩ := (show ∃ t', v = Value.int j t' from ry)
  exact PyProof.Rows.isub_int ⟨.int (i - j), H, I.tok _, ⟨_, rfl⟩, q⟩

/-- what is between an instance and its method: the tree of a method call -/
theorem methcall_of {pl : Sem Bool} {m : Str} {apos : Pos} {args : List Expr} {pins : List (Addr × Obj)} {s : Shared} {σ : St} {H : Hp} {Q : Value → Shared → Prop} {te : TE} (he : PE X e te) (I : Inv X pins σ H s)
    (h : te σ H fun x H1 => ∃ a C dx fs g, x = .ref a ∧ H1 a = some (.ins C dx fs) ∧ Cls X.K C ∧ Meth X.K C m g ∧ fs.lookup m = none ∧
      ∀ s1, Inv X pins σ H1 s1 → wpAny (model X.prog X.w) X.A (callWith pos (.ref g) [.ref a] (backTo pos (starEach args X.env)) (backToKw pos (keywordEach [] X.env))) Q X.xe s1)
    (ht : eval (.Call (.Attribute e m apos) args [] pos) X.env = (do
      let ov ← eval e X.env
      standAt apos.atName
      let (f, first) ← holding [ov] (getMethod ov m pl)
      callWith pos f first (backTo pos (starEach args X.env)) (backToKw pos (keywordEach [] X.env)))) :
    wpAny (model X.prog X.w) X.A (eval (.Call (.Attribute e m apos) args [] pos) X.env) Q X.xe s := by
  refine PySem.W.methodCall_KW (pl := pl) (thn (he pins s σ H _ I h) fun u s1 ⟨x, H1, I1, rx, a, C, dx, fs, g, ex, ea, c, k, l, q⟩ => ?_) ht
  subst ex
  obtain rfl : u = Value.ref a := rx
  exact getmeth_ok I1 ea c k l (q s1 I1)
end

/-! ### isinstance -/
section
variable {X : Cx} {pins : List (Addr × Obj)} {σ : St} {H : Hp} {s : Shared} {A : Around} {E : Value → Shared → Prop} {Q : Value → Shared → Prop} {c : Value} {b : Bool}
/-- the type of a value, as the fragment's deciders take it; for an instance its class -/
inductive TyOf (K : PySem.W.Frag) (H : Hp) : V → Value → Prop where
  | non : TyOf K H .non (.type "NoneType")
  | bl (x : Bool) : TyOf K H (.bl x) (.type "bool")
  | int (i : Int) : TyOf K H (.int i) (.type "int")
  | str (x : Str) : TyOf K H (.str x) (.type "str")
  | flt (x : UInt64) : TyOf K H (.flt x) (.type "float")
  | lst {a : Addr} {xs : List V} (e : H a = some (.lst xs)) : TyOf K H (.ref a) (.type "list")
  | frz {a : Addr} {o : Obj} {xs : List V} (e : H a = some (.frz o (.lst xs))) : TyOf K H (.ref a) (.type "list")
  | tup {a : Addr} {xs : List V} (e : H a = some (.tup xs)) : TyOf K H (.ref a) (.type "tuple")
  | dK {a : Addr} {kvs : List (Key × V)} (e : H a = some (.dK kvs)) : TyOf K H (.ref a) (.type "dict")
  | dT {a : Addr} {kvs : List (List Key × V)} (e : H a = some (.dT kvs)) : TyOf K H (.ref a) (.type "dict")
  | ins {a C dx : Addr} {fs : List (Str × V)} (e : H a = some (.ins C dx fs)) (cl : Cls K C) (ha : PySem.W.findIn K (.ref C) "__class__" = some (some (.builtin "object.__class__")))
      (hn : PySem.W.specialIn K (.builtin "object.__class__") "__get__" = some (some (.builtin "getset_descriptor.__get__"))) (htk : PySem.W.takesIn K (.builtin "object.__class__") = some true)
      (hm : PySem.W.mroIn K C (.type "object") = some true) : TyOf K H (.ref a) (.ref C)
/-- isinstance(x, c) for one class c, a built-in or an own one: kitOne's answer -/
theorem isinst_ok {x : V} {u t : Value} (I : Inv X pins σ H s) (rx : RelV x u) (ty : TyOf X.K H x t) (e : PySem.W.kitOne X.K t c = some b) (h : ∀ tk, Q (.bool b) { s with toks := tk }) :
    wpAny (model X.prog X.w) A (call (.builtin "isinstance") [u, c]) Q E s := by
  cases ty with
  | non => cases (show u = Value.none from rx); exact PySem.W.kia_one PySem.W.kitx_none I.kIn True.intro e (fun z => nomatch z) h
  | bl y => cases (show u = Value.bool y from rx); exact PySem.W.kia_one PySem.W.kitx_bool I.kIn True.intro e (fun z => nomatch z) h
  | int i => obtain ⟨t, q⟩ := (show ∃ t, u = Value.int i t from rx); cases q; exact PySem.W.kia_one PySem.W.kitx_int I.kIn True.intro e (fun z => nomatch z) h
  | str y => obtain ⟨t, q⟩ := (show ∃ t, u = Value.str y t from rx); cases q; exact PySem.W.kia_one PySem.W.kitx_str I.kIn True.intro e (fun z => nomatch z) h
  | flt y => obtain ⟨t, q⟩ := (show ∃ t, u = Value.float y t from rx); cases q; exact PySem.W.kia_one PySem.W.kitx_float I.kIn True.intro e (fun z => nomatch z) h
  | @lst a xs ea =>
    cases (show u = Value.ref a from rx)
    obtain ⟨_, _, n, _, h1⟩ := (show ObjOk X.prog X.w H s.heap a (.lst xs) from I.hok a _ ea)
    exact PySem.W.kia_one PySem.W.kitx_list I.kIn ⟨_, h1, rfl⟩ e (fun z => nomatch z) h
  | @frz a ob xs ea =>
    cases (show u = Value.ref a from rx)
    obtain ⟨_, _, _, n, _, h1⟩ := (show ObjOk X.prog X.w H s.heap a (.frz ob (.lst xs)) from I.hok a _ ea)
    exact PySem.W.kia_one PySem.W.kitx_list I.kIn ⟨_, h1, rfl⟩ e (fun z => nomatch z) h
  | @tup a xs ea =>
    cases (show u = Value.ref a from rx)
    obtain ⟨_, _, _, p⟩ := (show ObjOk X.prog X.w H s.heap a (.tup xs) from I.hok a _ ea)
    obtain ⟨o, h1, h2, _⟩ := p
    exact PySem.W.kia_one PySem.W.kitx_tuple I.kIn ⟨o, h1, h2⟩ e (fun z => nomatch z) h
  | @dK a kvs ea =>
    cases (show u = Value.ref a from rx)
    obtain ⟨_, _, vs, _, p⟩ := (show ObjOk X.prog X.w H s.heap a (.dK kvs) from I.hok a _ ea)
    obtain ⟨o, es, ep, h1, h2, _⟩ := p
    exact PySem.W.kia_one PySem.W.kitx_dict I.kIn ⟨o, h1, h2.1⟩ e (fun z => nomatch z) h
  | @dT a kvs ea =>
    cases (show u = Value.ref a from rx)
    obtain ⟨_, _, xs, _, o, es, ep, h1, h2, _⟩ := (show ObjOk X.prog X.w H s.heap a (.dT kvs) from I.hok a _ ea)
    exact PySem.W.kia_one PySem.W.kitx_dict I.kIn ⟨o, h1, h2.1⟩ e (fun z => nomatch z) h
  | @ins a C dx fs ea cl ha hn htk hm =>
    cases (show u = Value.ref a from rx)
    obtain ⟨mA, O, _⟩ := ins_get I.hok ea
    obtain ⟨od, J, _⟩ := O.look
    exact PySem.W.kia_one (PySem.W.kitx_own (cl.get _) cl.hd ha hn htk hm) I.kIn J e (fun z => nomatch z) h
end
end L2

namespace L2
open PySem PySem.Spec PyProof.Rows

/-! ### room -/
structure Room (k : Nat) (A : Around) : Prop where
  hd : A.handled = none
  dp : A.depth + 3 * k + 5 < recursionLimit
  un : A.units + 16 * k + 200 < cLine
theorem Room.mono {j k : Nat} {A : Around} (r : Room k A) (h : j ≤ k) : Room j A := ⟨r.hd, by have := r.dp; omega, by have := r.un; omega⟩
theorem Room.deeper {k : Nat} {A : Around} (r : Room (k + 1) A) (env : Env) : Room k (A.deeper env) :=
  ⟨r.hd, by have := r.dp; show A.depth + 1 + 3 * k + 5 < _; omega, by have := r.un; show A.units + 3 + 16 * k + 200 < _; omega⟩
theorem Room.in1 {k : Nat} {A : Around} (r : Room (k + 1) A) : Room k A.in1 :=
  ⟨r.hd, by have := r.dp; show A.depth + 3 * k + 5 < _; omega, by have := r.un; show A.units + 1 + 16 * k + 200 < _; omega⟩
theorem make_depth {A : Around} {C : Addr} {us : List Value} {kw : List (Str × Value)} : (A.under (.builtin "type.__call__" ⟨.ref C :: us, kw⟩)).depth = A.depth + 1 := by
  first | rfl | simp [Around.under, Code.weight, Code.isCreation, Code.isGuard, Code.isCaller, Code.frames, Code.isFrame, guardIds]
theorem make_units {A : Around} {C : Addr} {us : List Value} {kw : List (Str × Value)} : (A.under (.builtin "type.__call__" ⟨.ref C :: us, kw⟩)).units = A.units + 1 := by
  first | rfl | simp [Around.under, Code.cUnits, Code.frames, Code.isFrame]
theorem Room.make {k : Nat} {A : Around} (r : Room (k + 1) A) (C : Addr) (us : List Value) (kw : List (Str × Value)) : Room k (A.under (.builtin "type.__call__" ⟨.ref C :: us, kw⟩)) :=
  ⟨r.hd, by have := r.dp; rw [make_depth]; omega, by have := r.un; rw [make_units]; omega⟩
theorem Room.depth {k : Nat} {A : Around} (r : Room k A) : A.depth < recursionLimit := by have := r.dp; omega
theorem Room.units {k : Nat} {A : Around} (r : Room k A) : A.units + 64 < cLine := by have := r.un; omega
theorem Room.units0 {k : Nat} {A : Around} (r : Room k A) : A.units < cLine := by have := r.un; omega

/-! ### argument lists and displays -/
def tNil : TA := fun _ H Q => Q [] H
def tCons (ta : TE) (tr : TA) : TA := fun σ H Q => ta σ H fun x H1 => tr σ H1 fun xs H2 => Q (x :: xs) H2
section
variable {X : Cx} {e : Expr} {es : List Expr} {te : TE} {t : TA} {pos : Pos}
theorem pa_nil : PA X [] tNil := fun _ _ _ _ H Q I h => Calls.spliced_nil ⟨[], H, I, .nil, h⟩
theorem pa_cons (ha : PE X e te) (hr : PA X es t) (hs : starEach (e :: es) X.env = (false, eval e X.env) :: starEach es X.env := by rfl) : PA X (e :: es) (tCons te t) := by
  intro pos pins s σ H Q I h
  rw [hs]
  show wpAny _ _ (spliced ((false, eval e X.env) :: backTo pos (starEach es X.env))) _ _ s
  refine Calls.spliced_cons (thn (ha pins s σ H _ I h) fun u s1 ⟨x, H1, I1, r1, q1⟩ => ?_)
  exact thn (hr pos pins s1 σ H1 _ I1 q1) fun us s2 ⟨xs, H2, I2, r2, q2⟩ => ⟨x :: xs, H2, I2, .cons r1 r2, q2⟩

/-- a tuple, a list of written items -/
def tTup (t : TA) : TE := fun σ H Q => t σ H fun xs H1 => xs.length ≤ sizeLine ∧ ∀ p, H1 p = none → Q (.ref p) (upd H1 p (.tup xs))
def tLst (t : TA) : TE := fun σ H Q => t σ H fun xs H1 => xs.length ≤ sizeLine ∧ ∀ p, H1 p = none → Q (.ref p) (upd H1 p (.lst xs))
theorem pe_tup {x1} (h : PA X es t) : PE X (.Tuple es x1 pos) (tTup t) := by
  intro pins s σ H Q I hq
  refine wpAny_Tuple_spliced (thn (h pos pins s σ H _ I hq) fun us s1 ⟨xs, H1, I1, r, z, q⟩ => ⟨by rw [← r.length]; exact z, ?_⟩)
  have hf : H1 s1.heap.objs.size = none := I1.hok.fresh (Nat.le_refl _)
  refine ⟨.ref s1.heap.objs.size, upd H1 s1.heap.objs.size (.tup xs), I1.laid (t' := s1.toks) (fun b u e => Heap.get?_push_of_some _ e) (Nat.le_refl _) ?_, rfl, q _ hf⟩
  exact ⟨z, us, r, ⟨_, Heap.get?_push_size _ rfl, rfl, _, rfl⟩⟩
theorem pe_lst (h : PA X es t) : PE X (.List es pos) (tLst t) := by
  intro pins s σ H Q I hq
  refine wpAny_List_spliced (thn (h pos pins s σ H _ I hq) fun us s1 ⟨xs, H1, I1, r, z, q⟩ => ⟨by rw [← r.length]; exact z, ?_⟩)
  have hf : H1 s1.heap.objs.size = none := I1.hok.fresh (Nat.le_refl _)
  refine ⟨.ref s1.heap.objs.size, upd H1 s1.heap.objs.size (.lst xs), I1.laid (t' := s1.toks) (fun b u e => Heap.get?_push_of_some _ e) (Nat.le_refl _) ?_, rfl, q _ hf⟩
  exact ⟨z, us, 0, r, Heap.get?_push_size _ rfl⟩
end

/-! ### what a def promises -/
/-- a def's promise: the bound arguments in the parameters' order, the heap, the wanted end, the wanted exception -/
abbrev Sp := List V → Hp → VK → XK → Prop
/-- how an exception lies behind a call (file 08 gives it): the callers' frames, abstract heap and state ahead of the call, the wish, the exception, the state -/
abbrev CXT := List Env → Hp → Shared → XK → Value → Shared → Prop

/-- the state at a call -/
structure Env0 (P : Program) (w : World) (K : PySem.W.Frag) (mg : Str → Option Value) (base : Heap) (A : Around) (outer : List Env) (s : Shared) (H : Hp) : Prop where
  frames : A.frames = some outer
  mod : Mod K mg base
  bs : ∀ b o, base.get? b = some o → s.heap.get? b = some o ∧ H b = none
  bsz : base.objs.size ≤ s.heap.objs.size
  funs : s.heap.FunFrames base outer
  frf : ∀ b ∈ frs outer, H b = none
  hok : HOk P w H s.heap
  bare : AllBare s.gens
  tk : 0 < s.toks
/-- a call's end -/
def CE (outer : List Env) (P : Program) (w : World) (H : Hp) (s : Shared) (Q : VK) (u : Value) (s' : Shared) : Prop :=
  ∃ v H', 0 < s'.toks ∧ s'.os = s.os ∧ AllBare s'.gens ∧ Un (frs outer) [] H H' s.heap s'.heap ∧ HOk P w H' s'.heap ∧ RelV v u ∧ Q v H'
def CR (CX : CXT) (outer : List Env) (P : Program) (w : World) (H : Hp) (s : Shared) (Q : VK) (E : XK) (r : Result) (s' : Shared) : Prop :=
  match r with
  | .ok (.ret u) => CE outer P w H s Q u s'
  | .ok _ => False
  | .error e => CX outer H s E e s'
structure FnOk (P : Program) (w : World) (K : PySem.W.Frag) (mg : Str → Option Value) (base : Heap) (CX : CXT) (k : Nat) (f : Addr) (fd : FuncData) (ps : List Str) (sp : Sp) : Prop where
  len : ∀ vs H Q E, sp vs H Q E → vs.length = ps.length
  run : ∀ (A : Around) (outer : List Env) (s : Shared) (H : Hp) (args : Args) (us : List Value) (vs : List V) (Q : VK) (E : XK), Room k A → Env0 P w K mg base A outer s H → BindsTo s fd args (ps.zip us) → Vals vs us → sp vs H Q E →
    codeAny (model P w) A (.call (.ref f) args) (CR CX outer P w H s Q E) s
theorem FnOk.mono {P : Program} {w : World} {K : PySem.W.Frag} {mg : Str → Option Value} {base : Heap} {CX : CXT} {j k : Nat} {f : Addr} {fd : FuncData} {ps : List Str} {sp : Sp} (F : FnOk P w K mg base CX j f fd ps sp) (h : j ≤ k) :
    FnOk P w K mg base CX k f fd ps sp := ⟨F.len, fun A outer s H args us vs Q E hr => F.run A outer s H args us vs Q E (hr.mono h)⟩
/-- a weaker promise -/
theorem FnOk.imp {P : Program} {w : World} {K : PySem.W.Frag} {mg : Str → Option Value} {base : Heap} {CX : CXT} {k : Nat} {f : Addr} {fd : FuncData} {ps : List Str} {sp sp' : Sp} (F : FnOk P w K mg base CX k f fd ps sp)
    (h : ∀ vs H Q E, sp' vs H Q E → sp vs H Q E) : FnOk P w K mg base CX k f fd ps sp' :=
  ⟨fun vs H Q E q => F.len vs H Q E (h _ _ _ _ q), fun A outer s H args us vs Q E hr he hb hv hs => F.run A outer s H args us vs Q E hr he hb hv (h _ _ _ _ hs)⟩

theorem Env0.make {P : Program} {w : World} {K : PySem.W.Frag} {mg : Str → Option Value} {base : Heap} {A : Around} {outer : List Env} {s : Shared} {H : Hp} (e : Env0 P w K mg base A outer s H) (C : Addr) (us : List Value) (kw : List (Str × Value)) :
    Env0 P w K mg base (A.under (.builtin "type.__call__" ⟨.ref C :: us, kw⟩)) outer s H := ⟨by first | exact e.frames | (simpa [Around.under, Code.envs, Code.isFrame, pushEnvs] using e.frames), e.mod, e.bs, e.bsz, e.funs, e.frf, e.hok, e.bare, e.tk⟩
theorem Env0.in1 {P : Program} {w : World} {K : PySem.W.Frag} {mg : Str → Option Value} {base : Heap} {A : Around} {outer : List Env} {s : Shared} {H : Hp} (e : Env0 P w K mg base A outer s H) :
    Env0 P w K mg base A.in1 outer s H := ⟨e.frames, e.mod, e.bs, e.bsz, e.funs, e.frf, e.hok, e.bare, e.tk⟩

section
variable {X : Cx} {pins : List (Addr × Obj)} {σ : St} {H : Hp} {s s' : Shared}
/-- from a body: what a callee wants -/
theorem Inv.env0 (I : Inv X pins σ H s) : Env0 X.prog X.w X.K X.mg X.base X.A X.stack s H :=
  ⟨I.ok.frames, I.ok.mod, I.bs, Nat.le_trans I.ok.bsz I.sz, I.stack, I.stkFree, I.hok, I.bare, I.tk⟩
/-- behind a call -/
theorem Inv.after {Q : VK} {u : Value} (I : Inv X pins σ H s) (h : CE X.stack X.prog X.w H s Q u s') : EP X pins σ Q u s' := by
  obtain ⟨v, H', ht, os, bare, un, hok, r, q⟩ := h
  obtain ⟨hh, g, d, t, os'⟩ := s'
  obtain rfl : os' = s.os := os
  exact ⟨v, H', I.call (h' := hh) (g' := g) (d' := d) (t' := t) (ch := []) un hok bare (fun b z => absurd z (by simp)) ht, r, q⟩
end

/-! ### calls -/
/-- f(..): the written arguments, then the defaults dvs; E: what is wanted of an exception -/
def tCall (sp : Sp) (dvs : List V) (E : XK) (t : TA) : TE := fun σ H Q => t σ H fun vs H1 => sp (vs ++ dvs) H1 Q E
/-- o.m(..) of an instance of the class at C -/
def tMeth (C : Addr) (m : Str) (sp : Sp) (dvs : List V) (E : XK) (ta : TE) (t : TA) : TE := fun σ H Q => ta σ H fun x H1 => ∃ a dx fs, x = .ref a ∧ H1 a = some (.ins C dx fs) ∧ fs.lookup m = none ∧
  t σ H1 fun vs H2 => sp (x :: (vs ++ dvs)) H2 Q E
/-- C(..): a new instance and its dict, then __init__ -/
def tMake (C : Addr) (sp : Sp) (dvs : List V) (E : XK) (t : TA) : TE := fun σ H Q => t σ H fun vs H1 => ∀ x dx, H1 x = none → H1 dx = none → dx ≠ x →
  sp (.ref x :: (vs ++ dvs)) (upd (upd H1 dx (.own x)) x (.ins C dx [])) (fun v H2 => v = .non ∧ Q (.ref x) H2) E

/-- how the parameters are bound: us the positional arguments, kw the keywords' values by name, ds the defaults that fill up -/
def Binds (K : PySem.W.Frag) (fd : FuncData) (ps : List Str) (ds : List Value) : Prop :=
  ∀ (s : Shared) (us : List Value), K.In s.heap → (us ++ ds).length = ps.length → BindsTo s fd ⟨us, []⟩ (ps.zip (us ++ ds))
/-- every parameter is given -/
theorem Binds.all {K : PySem.W.Frag} {fd : FuncData} {ps : List Str} (h : ∀ us : List Value, us.length = ps.length → bindArgs fd ⟨us, []⟩ = pure (ps.zip us)) : Binds K fd ps [] := fun s us _ hl => by
  rw [List.append_nil] at hl ⊢
  exact .of_eq (h us hl)

/-- an exception of a callee reaches what this body wants of exceptions -/
def Passes (CX : CXT) (X : Cx) (E : XK) : Prop := ∀ (pins : List (Addr × Obj)) (σ : St) (H : Hp) (s : Shared) (e : Value) (s' : Shared), Inv X pins σ H s → CX X.stack H s E e s' → X.xe e s'

section
variable {X : Cx} {CX : CXT} {k : Nat} {f C : Addr} {fd : FuncData} {ps : List Str} {sp : Sp} {dvs : List V} {ds : List Value} {E : XK} {x m : Str} {p pos apos : Pos} {e o : Expr} {es : List Expr} {ta : TE} {t : TA}

/-- the callee runs -/
theorem run_fn {pins : List (Addr × Obj)} {σ : St} {H : Hp} {s : Shared} {Q : VK} {us : List Value} {vs : List V} (F : FnOk X.prog X.w X.K X.mg X.base CX k f fd ps sp) (hr : Room k X.A) (hb : Binds X.K fd ps ds) (hd : Vals dvs ds) (hx : Passes CX X E)
    (I : Inv X pins σ H s) (r : Vals vs us) (h : sp (vs ++ dvs) H Q E) : wpAny (model X.prog X.w) X.A (call (.ref f) us) (EP X pins σ Q) X.xe s := by
  have r2 : Vals (vs ++ dvs) (us ++ ds) := r.append hd
  have hl : (us ++ ds).length = ps.length := by rw [← r2.length]; exact F.len _ _ _ _ h
  refine wpAny_call (codeAny_mono (F.run X.A X.stack s H ⟨us, []⟩ (us ++ ds) (vs ++ dvs) Q E hr I.env0 (hb s us I.kIn hl) r2 h) fun r s' hq => ?_)
  cases r with
  | error e => exact hx pins σ H s e s' I hq
  | ok fl =>
    cases fl with
    | ret u => exact I.after hq
    | next => exact False.elim hq
    | brk => exact False.elim hq
    | cont => exact False.elim hq

theorem pe_call (F : FnOk X.prog X.w X.K X.mg X.base CX k f fd ps sp) (hr : Room k X.A) (hg : Gl X x) (hm : X.mg x = some (.ref f)) (hk : PySem.W.keepIn X.K (.ref f) = true) (hb : Binds X.K fd ps ds) (hd : Vals dvs ds) (hx : Passes CX X E)
    (ha : PA X (e :: es) t) (hdb : (x == ("__debug__" : Str)) = false := by decide) (he : starEach (e :: es) X.env = (false, eval e X.env) :: starEach es X.env := by rfl) (hpl : (backTo pos (starEach es X.env)).any (·.1) = false := by rfl) :
    PE X (.Call (.Name x p) (e :: es) [] pos) (tCall sp dvs E t) := by
  intro pins s σ H Q I h
  refine wpAny_Call_Name_kw (ld_glob I hg hm ?_ hdb)
  refine PySem.W.callWith_K (h₀ := X.base) I.ok.mod.kin hk (thn (ha pos pins s σ H _ I h) fun us s1 ⟨vs, H1, I1, r, q⟩ => ⟨I1.kIn, ?_⟩) he hpl
  exact run_fn F hr hb hd hx I1 r q
theorem pe_call0 (F : FnOk X.prog X.w X.K X.mg X.base CX k f fd ps sp) (hr : Room k X.A) (hg : Gl X x) (hm : X.mg x = some (.ref f)) (hk : PySem.W.keepIn X.K (.ref f) = true) (hb : Binds X.K fd ps ds) (hd : Vals dvs ds) (hx : Passes CX X E)
    (hdb : (x == ("__debug__" : Str)) = false := by decide) : PE X (.Call (.Name x p) [] [] pos) (tCall sp dvs E tNil) := by
  intro pins s σ H Q I h
  refine wpAny_Call_Name_kw (ld_glob I hg hm ?_ hdb)
  exact PySem.W.callWith_K0 I.kIn hk (run_fn (us := []) F hr hb hd hx I .nil h)

/-- o.m(e, ..) -/
theorem pe_meth {pl : Sem Bool} (he : PE X o ta) (c : Cls X.K C) (hm : Meth X.K C m f) (F : FnOk X.prog X.w X.K X.mg X.base CX k f fd ps sp) (hr : Room k X.A) (hb : Binds X.K fd ps ds) (hd : Vals dvs ds) (hx : Passes CX X E) (ha : PA X (e :: es) t)
    (hst : starEach (e :: es) X.env = (false, eval e X.env) :: starEach es X.env := by rfl) (hpl : (backTo pos (starEach es X.env)).any (·.1) = false := by rfl)
    (ht : eval (.Call (.Attribute o m apos) (e :: es) [] pos) X.env = (do
      let ov ← eval o X.env
      standAt apos.atName
      let (f, first) ← holding [ov] (getMethod ov m pl)
      callWith pos f first (backTo pos (starEach (e :: es) X.env)) (backToKw pos (keywordEach [] X.env))) := by rfl) :
    PE X (.Call (.Attribute o m apos) (e :: es) [] pos) (tMeth C m sp dvs E ta t) := by
  intro pins s σ H Q I h
  refine PySem.W.methodCall_KW (pl := pl) (thn (he pins s σ H _ I h) fun u s1 ⟨x, H1, I1, rx, a, dx, fs, ex, ea, l, q⟩ => ?_) ht
  subst ex
  obtain rfl : u = Value.ref a := rx
  refine getmeth_ok I1 ea c hm l ?_
  refine PySem.W.callWith_K (first := [.ref a]) (h₀ := X.base) I.ok.mod.kin hm.kp (thn (ha pos pins s1 σ H1 _ I1 q) fun us s2 ⟨vs, H2, I2, r, q2⟩ => ⟨I2.kIn, ?_⟩) hst hpl
  exact run_fn (us := .ref a :: us) (vs := .ref a :: vs) F hr hb hd hx I2 (.cons rfl r) q2
/-- o.m() -/
theorem pe_meth0 {pl : Sem Bool} (he : PE X o ta) (c : Cls X.K C) (hm : Meth X.K C m f) (F : FnOk X.prog X.w X.K X.mg X.base CX k f fd ps sp) (hr : Room k X.A) (hb : Binds X.K fd ps ds) (hd : Vals dvs ds) (hx : Passes CX X E)
    (ht : eval (.Call (.Attribute o m apos) [] [] pos) X.env = (do
      let ov ← eval o X.env
      standAt apos.atName
      let (f, first) ← holding [ov] (getMethod ov m pl)
      callWith pos f first (backTo pos (starEach [] X.env)) (backToKw pos (keywordEach [] X.env))) := by rfl) :
    PE X (.Call (.Attribute o m apos) [] [] pos) (tMeth C m sp dvs E ta tNil) := by
  intro pins s σ H Q I h
  refine PySem.W.methodCall_KW (pl := pl) (thn (he pins s σ H _ I h) fun u s1 ⟨x, H1, I1, rx, a, dx, fs, ex, ea, l, q⟩ => ?_) ht
  subst ex
  obtain rfl : u = Value.ref a := rx
  refine getmeth_ok I1 ea c hm l ?_
  exact PySem.W.callWith_K0 (first := [.ref a]) I1.kIn hm.kp (run_fn (us := [.ref a]) (vs := [.ref a]) F hr hb hd hx I1 (.cons rfl .nil) q)

/-- what a class must have to be made -/
structure Mk (K : PySem.W.Frag) (C f : Addr) : Prop where
  makes : PySem.W.makesIn K C = true
  init : PySem.W.findIn K (.ref C) "__init__" = some (some (.ref f))
  fn : PySem.W.isFn K (.ref f) = true
  kp : PySem.W.keepIn K (.ref C) = true

theorem run_make {pins : List (Addr × Obj)} {σ : St} {H : Hp} {s : Shared} {Q : VK} {us : List Value} {vs : List V} (M : Mk X.K C f) (F : FnOk X.prog X.w X.K X.mg X.base CX k f fd ps sp) (hr : Room (k + 1) X.A) (hb : Binds X.K fd ps ds) (hd : Vals dvs ds)
    (hx : Passes CX X E) (I : Inv X pins σ H s) (r : Vals vs us)
    (h : ∀ x dx, H x = none → H dx = none → dx ≠ x → sp (.ref x :: (vs ++ dvs)) (upd (upd H dx (.own x)) x (.ins C dx [])) (fun v H2 => v = .non ∧ Q (.ref x) H2) E) :
    wpAny (model X.prog X.w) X.A (call (.ref C) us) (EP X pins σ Q) X.xe s := by
  have hq := h (s.heap.objs.size + 1) s.heap.objs.size (I.hok.fresh (Nat.le_succ _)) (I.hok.fresh (Nat.le_refl _)) (Nat.ne_of_lt (Nat.lt_succ_self _))
  have I2 := Inv.made (C := C) I
  have r2 : Vals (V.ref (s.heap.objs.size + 1) :: (vs ++ dvs)) (Value.ref (s.heap.objs.size + 1) :: (us ++ ds)) := .cons rfl (r.append hd)
  have hl : (Value.ref (s.heap.objs.size + 1) :: us ++ ds).length = ps.length := by
    have e := r2.length
    rw [F.len _ _ _ _ hq] at e
    exact e.symm
  refine wpAny_call (make_map (f := f) I.kIn M.makes M.init (beq_iff_eq.mp M.fn) (codeAny_mono (F.run _ X.stack _ _ ⟨Value.ref (s.heap.objs.size + 1) :: us, []⟩ (Value.ref (s.heap.objs.size + 1) :: (us ++ ds)) _ _ E (hr.make C us [])
    (I2.env0.make C us []) (hb _ (Value.ref (s.heap.objs.size + 1) :: us) I2.kIn hl) r2 hq) fun r s' hq' => ?_))
  cases r with
  | error e => exact hx pins σ _ _ e s' I2 hq'
  | ok fl =>
    cases fl with
    | ret u =>
      obtain ⟨v, H', I3, rv, ev, q3⟩ := I2.after hq'
      subst ev
      exact ⟨rv, ⟨V.ref (s.heap.objs.size + 1), H', I3, rfl, q3⟩⟩
    | next => exact False.elim hq'
    | brk => exact False.elim hq'
    | cont => exact False.elim hq'
theorem pe_make (M : Mk X.K C f) (F : FnOk X.prog X.w X.K X.mg X.base CX k f fd ps sp) (hr : Room (k + 1) X.A) (hg : Gl X x) (hm : X.mg x = some (.ref C)) (hb : Binds X.K fd ps ds) (hd : Vals dvs ds) (hx : Passes CX X E)
    (ha : PA X (e :: es) t) (hdb : (x == ("__debug__" : Str)) = false := by decide) (he : starEach (e :: es) X.env = (false, eval e X.env) :: starEach es X.env := by rfl) (hpl : (backTo pos (starEach es X.env)).any (·.1) = false := by rfl) :
    PE X (.Call (.Name x p) (e :: es) [] pos) (tMake C sp dvs E t) := by
  intro pins s σ H Q I h
  refine wpAny_Call_Name_kw (ld_glob I hg hm ?_ hdb)
  refine PySem.W.callWith_K (h₀ := X.base) I.ok.mod.kin M.kp (thn (ha pos pins s σ H _ I h) fun us s1 ⟨vs, H1, I1, r, q⟩ => ⟨I1.kIn, ?_⟩) he hpl
  exact run_make M F hr hb hd hx I1 r q
theorem pe_make0 (M : Mk X.K C f) (F : FnOk X.prog X.w X.K X.mg X.base CX k f fd ps sp) (hr : Room (k + 1) X.A) (hg : Gl X x) (hm : X.mg x = some (.ref C)) (hb : Binds X.K fd ps ds) (hd : Vals dvs ds) (hx : Passes CX X E)
    (hdb : (x == ("__debug__" : Str)) = false := by decide) : PE X (.Call (.Name x p) [] [] pos) (tMake C sp dvs E tNil) := by
  intro pins s σ H Q I h
  refine wpAny_Call_Name_kw (ld_glob I hg hm ?_ hdb)
  exact PySem.W.callWith_K0 I.kIn M.kp (run_make (us := []) M F hr hb hd hx I .nil h)
end

/-! ### keywords -/
/-- the values of the keywords, from the left -/
def PK (X : Cx) (kws : List Keyword) (t : TA) : Prop :=
  ∀ (pos : Pos) (pins : List (Addr × Obj)) (s : Shared) (σ : St) (H : Hp) (Q : List V → Hp → Prop), Inv X pins σ H s → t σ H Q → wpAny (model X.prog X.w) X.A (evalAll ((backToKw pos (keywordEach kws X.env)).map (·.2))) (AP X pins σ Q) X.xe s
section
variable {X : Cx} {CX : CXT} {k : Nat} {f C : Addr} {fd : FuncData} {ps ks : List Str} {sp : Sp} {E : XK} {x m : Str} {p pos apos kpos : Pos} {e o : Expr} {es : List Expr} {kws : List Keyword} {te ta : TE} {t tk : TA} {nm : Option Str}
theorem pk_nil : PK X [] tNil := fun _ _ _ _ H Q I h => wpAny_evalAll_nil ⟨[], H, I, .nil, h⟩
theorem pk_cons (ha : PE X e te) (hr : PK X kws t) : PK X (⟨nm, e, kpos⟩ :: kws) (tCons te t) := by
  intro pos pins s σ H Q I h
  show wpAny _ _ (evalAll ((do let v ← eval e X.env; standAt pos; pure v) :: (backToKw pos (keywordEach kws X.env)).map (·.2))) _ _ s
  refine wpAny_evalAll_cons (wpAny_bind (thn (ha pins s σ H _ I h) fun u s1 ⟨x, H1, I1, r1, q1⟩ => wpAny_bind (wpAny_standAt (wpAny_pure ?_))))
  exact thn (hr pos pins s1 σ H1 _ I1 q1) fun us s2 ⟨xs, H2, I2, r2, q2⟩ => ⟨x :: xs, H2, I2, .cons r1 r2, q2⟩

/-- how a call with keywords binds: g puts the positional values us and the keywords' values ws (names ks) in the parameters' order, defaults among them -/
structure KBinds (K : PySem.W.Frag) (fd : FuncData) (ps ks : List Str) (g : List Value → List Value → List Value) (gV : List V → List V → List V) : Prop where
  to : ∀ (s : Shared) (us ws : List Value), K.In s.heap → (g us ws).length = ps.length → BindsTo s fd ⟨us, ks.zip ws⟩ (ps.zip (g us ws))
  rel : ∀ {vs : List V} {us : List Value} {zs : List V} {ws : List Value}, Vals vs us → Vals zs ws → Vals (gV vs zs) (g us ws)
def tCallK (sp : Sp) (gV : List V → List V → List V) (E : XK) (t tk : TA) : TE := fun σ H Q => t σ H fun vs H1 => tk σ H1 fun zs H2 => sp (gV vs zs) H2 Q E
variable {g : List Value → List Value → List Value} {gV : List V → List V → List V}
theorem run_fnk {pins : List (Addr × Obj)} {σ : St} {H : Hp} {s : Shared} {Q : VK} {us ws : List Value} {vs zs : List V} (F : FnOk X.prog X.w X.K X.mg X.base CX k f fd ps sp) (hr : Room k X.A) (hb : KBinds X.K fd ps ks g gV) (hx : Passes CX X E)
    (I : Inv X pins σ H s) (r : Vals vs us) (rz : Vals zs ws) (h : sp (gV vs zs) H Q E) : wpAny (model X.prog X.w) X.A (call (.ref f) us (ks.zip ws)) (EP X pins σ Q) X.xe s := by
  have r2 := hb.rel r rz
  have hl : (g us ws).length = ps.length := by rw [← r2.length]; exact F.len _ _ _ _ h
  refine wpAny_call (codeAny_mono (F.run X.A X.stack s H ⟨us, ks.zip ws⟩ (g us ws) (gV vs zs) Q E hr I.env0 (hb.to s us ws I.kIn hl) r2 h) fun r s' hq => ?_)
  cases r with
  | error e => exact hx pins σ H s e s' I hq
  | ok fl =>
    cases fl with
    | ret u => exact I.after hq
    | next => exact False.elim hq
    | brk => exact False.elim hq
    | cont => exact False.elim hq
/-- f(e, .., k = v, ..) -/
theorem pe_callK (F : FnOk X.prog X.w X.K X.mg X.base CX k f fd ps sp) (hr : Room k X.A) (hg : Gl X x) (hm : X.mg x = some (.ref f)) (hk : PySem.W.keepIn X.K (.ref f) = true) (hb : KBinds X.K fd ps ks g gV) (hx : Passes CX X E)
    (ha : PA X (e :: es) t) (hkw : PK X kws tk) (hall : (backToKw pos (keywordEach kws X.env)).all (·.1.isSome) = true := by rfl) (hks : (backToKw pos (keywordEach kws X.env)).filterMap (·.1) = ks := by rfl)
    (hdb : (x == ("__debug__" : Str)) = false := by decide) (he : starEach (e :: es) X.env = (false, eval e X.env) :: starEach es X.env := by rfl)
    (hpl : ((backTo pos (starEach (e :: es) X.env)).any (·.1) || (backToKw pos (keywordEach kws X.env)).any (·.1.isNone)) = false := by rfl) :
    PE X (.Call (.Name x p) (e :: es) kws pos) (tCallK sp gV E t tk) := by
  intro pins s σ H Q I h
  refine wpAny_Call_Name_kw (ld_glob I hg hm ?_ hdb)
  refine PySem.W.callWith_KW (h₀ := X.base) I.ok.mod.kin hk hall (thn (ha pos pins s σ H _ I h) fun us s1 ⟨vs, H1, I1, r, q⟩ => ?_) hpl he
  refine thn (hkw pos pins s1 σ H1 _ I1 q) fun ws s2 ⟨zs, H2, I2, rz, q2⟩ => ⟨I2.kIn, ?_⟩
  rw [hks]
  exact run_fnk F hr hb hx I2 r rz q2
end

/-! ### a def's body keeps its promise -/
/-- names: the parameters first -/
structure FnScope (N P : List Str) (sc : Scope) : Prop where
  kind : sc.kind = .function
  co : sc.isCoroutine = false
  gen : sc.isGenerator = false
  nd : N.Nodup
  pre : N.take P.length = P
  par : ∀ x ∈ P, sc.names.lookup x = some .local ∨ sc.names.lookup x = some .cell
  nofree : ∀ y ∈ sc.names, y.2 ≠ .free

theorem bindL_out {kindOf : Str → Option NameKind} {x : Str} : ∀ {binds : List (Str × Value)} {m : Str → Option Value}, (∀ v, (x, v) ∉ binds) → bindL kindOf binds m x = m x
  | [], _, _ => rfl
  | (n, v) :: r, m, h => by
    unfold bindL
    rw [bindL_out fun w hw => h w (List.mem_cons_of_mem _ hw)]
    split
    · have : x ≠ n := by rintro rfl; exact h v List.mem_cons_self
      simp [this]
    · rfl
theorem bindC_out {kindOf : Str → Option NameKind} {x : Str} : ∀ {binds : List (Str × Value)} {m : Str → Option Value}, (∀ v, (x, v) ∉ binds) → bindC kindOf binds m x = m x
  | [], _, _ => rfl
  | (n, v) :: r, m, h => by
    unfold bindC
    rw [bindC_out fun w hw => h w (List.mem_cons_of_mem _ hw)]
    split
    · rfl
    · have : x ≠ n := by rintro rfl; exact h v List.mem_cons_self
      simp [this]
theorem bindL_get {kindOf : Str → Option NameKind} {x : Str} {v : Value} : ∀ {P : List Str} {vs : List Value} {i : Nat} {m : Str → Option Value}, P.Nodup → P[i]? = some x → vs[i]? = some v → kindOf x = some .local →
    bindL kindOf (P.zip vs) m x = some v
  | [], _, _, _, _, h, _, _ => by simp at h
  | _ :: _, [], _, _, _, _, h, _ => by simp at h
  | p :: P, w :: vs, 0, m, nd, h1, h2, hk => by
    simp at h1 h2; subst h1; subst h2
    show bindL kindOf ((p, w) :: P.zip vs) m p = _
    unfold bindL
    rw [bindL_out fun v hv => (List.nodup_cons.mp nd).1 (List.of_mem_zip hv).1, if_pos hk]
    simp
  | p :: P, w :: vs, i + 1, m, nd, h1, h2, hk => by
    show bindL kindOf ((p, w) :: P.zip vs) m x = _
    unfold bindL
    exact bindL_get (i := i) (List.nodup_cons.mp nd).2 (by simpa using h1) (by simpa using h2) hk
theorem bindC_get {kindOf : Str → Option NameKind} {x : Str} {v : Value} : ∀ {P : List Str} {vs : List Value} {i : Nat} {m : Str → Option Value}, P.Nodup → P[i]? = some x → vs[i]? = some v → kindOf x ≠ some .local →
    bindC kindOf (P.zip vs) m x = some v
  | [], _, _, _, _, h, _, _ => by simp at h
  | _ :: _, [], _, _, _, _, h, _ => by simp at h
  | p :: P, w :: vs, 0, m, nd, h1, h2, hk => by
    simp at h1 h2; subst h1; subst h2
    show bindC kindOf ((p, w) :: P.zip vs) m p = _
    unfold bindC
    rw [bindC_out fun v hv => (List.nodup_cons.mp nd).1 (List.of_mem_zip hv).1, if_neg hk]
    simp
  | p :: P, w :: vs, i + 1, m, nd, h1, h2, hk => by
    show bindC kindOf ((p, w) :: P.zip vs) m x = _
    unfold bindC
    exact bindC_get (i := i) (List.nodup_cons.mp nd).2 (by simpa using h1) (by simpa using h2) hk

/-- the names' values at the entry -/
def start (N : List Str) (vs : List V) : St := vs.map some ++ List.replicate (N.length - vs.length) none

/-- the context of a def's body, at its entry; an exception leaves the frame, then lies as CX says -/
def cxOf (CX : CXT) (P : Program) (w : World) (K : PySem.W.Frag) (mg : Str → Option Value) (base : Heap) (N : List Str) (qual : Str) (scope : Scope) (f : Addr) (cd : Value) (A : Around) (outer : List Env) (s : Shared) (H : Hp) (E : XK) : Cx where
  prog := P
  w := w
  K := K
  mg := mg
  base := base
  A := A.deeper (envOfC qual scope s.heap.objs.size f cd)
  N := N
  s₀ := s
  H₀ := H
  env := envOfC qual scope s.heap.objs.size f cd
  outer := outer
  stack := envOfC qual scope s.heap.objs.size f cd :: outer
  ex := []
  calm := true
  fn := fun _ => true
  pn := []
  xe := fun e s' => wpAny (model P w) (A.deeper (envOfC qual scope s.heap.objs.size f cd)) (leaving (envOfC qual scope s.heap.objs.size f cd) e) (fun _ s'' => CX outer H s E e s'') (fun e' s'' => CX outer H s E e' s'') s'

theorem cell_has {sc : Scope} {n : Nat} {x : Str} (h : sc.names.lookup x = some .cell) : ∃ c, (cellsFrom n sc.names []).lookup x = some c := by
  have q := PySem.W.cellsFrom_some sc.names n [] (.inl h)
  exact Option.isSome_iff_exists.mp q

theorem inv_start {CX : CXT} {P : Program} {w : World} {K : PySem.W.Frag} {mg : Str → Option Value} {base : Heap} {N ps : List Str} {qual : Str} {scope : Scope} {f : Addr} {cd : Value} {A : Around} {outer : List Env} {s s1 : Shared} {H : Hp} {E : XK} {us : List Value} {vs : List V}
    (S : FnScope N ps scope) (hd : A.handled = none) (e0 : Env0 P w K mg base A outer s H) (hl : vs.length = ps.length) (r : Vals vs us)
    (x : InCallC s s.heap.objs.size (bindL (envOfC qual scope s.heap.objs.size f cd).kindOf (ps.zip us) fun _ => none) (cellsFrom (s.heap.objs.size + 1) scope.names []) (bindC (envOfC qual scope s.heap.objs.size f cd).kindOf (ps.zip us) fun _ => none) s1) (ht : 0 < s1.toks) :
    Inv (cxOf CX P w K mg base N qual scope f cd A outer s H E) [] (start N vs) H s1 := by
  have hpl : ps.length ≤ N.length := by have := congrArg List.length S.pre; rw [List.length_take] at this; omega
  obtain ⟨h1, tk, rfl, hk⟩ := x.done
  have noA : ∀ b : Addr, b ∉ (cxOf CX P w K mg base N qual scope f cd A outer s H E).ex := fun b z => absurd (show b ∈ ([] : List Addr) from z) (by simp)
  refine ⟨⟨e0.mod, S.kind, rfl, rfl, Nat.le_refl _, fun y z c h1 h2 => ?_, fun y hy => ?_, fun y c _ h => ?_, fun _ => hd, Around.frames_deeper e0.frames, .inr ⟨rfl, rfl⟩, fun b z => absurd z (noA b), e0.bs, e0.bsz, fun b _ _ => noA b, fun b z => absurd z (noA b), e0.funs, e0.frf⟩,
    rfl, e0.bare, Un.kept hk, ⟨_, x.toInCall.ns, fun i y v h1 h2 h3 => ?_⟩, fun y c h => ⟨_, x.cell y c h⟩, e0.hok.fresh (Nat.le_refl _), fun y c h => ?_, fun p hp => absurd (show p ∈ ([] : List (Addr × Obj)) from hp) (by simp), e0.hok.kept hk, ?_, ht⟩
  · exact name_of_addr x.apart (PySem.mem_of_lookup h1) (PySem.mem_of_lookup h2)
  · have hy : scope.names.lookup y = some .cell ∨ scope.names.lookup y = some .free := hy
    rcases hy with hy | hy
    · exact cell_has hy
    · exact absurd rfl (S.nofree _ (PySem.mem_of_lookup hy))
  · exact Nat.le_of_lt (x.above y c (PySem.mem_of_lookup h))
  · have hi : i < vs.length := by
      unfold start at h2
      by_cases hi : i < vs.length
      · exact hi
      · rw [List.getElem?_append_right (by simpa using hi)] at h2
        rw [List.getElem?_replicate] at h2
        split at h2 <;> cases h2
    have ha : vs[i]? = some v := by
      unfold start at h2
      rw [List.getElem?_append_left (by simpa using hi), List.getElem?_map] at h2
      cases e : vs[i]? with
      | none => rw [e] at h2; cases h2
      | some a => rw [e] at h2; cases h2; rfl
    obtain ⟨u, hu, rv⟩ := r.get ha
    have hp : ps[i]? = some y := by
      rw [← S.pre, List.getElem?_take_of_lt (by omega)]; exact h1
    have ndP : ps.Nodup := by rw [← S.pre]; exact S.nd.sublist (List.take_sublist _ _)
    refine ⟨u, rv, ?_⟩
    rcases S.par y (List.mem_of_getElem? hp) with k | k
    · exact .inl ⟨k, bindL_get ndP hp hu k⟩
    · obtain ⟨c, e⟩ := cell_has (n := s.heap.objs.size + 1) k
      refine .inr ⟨.inl k, c, e, ?_⟩
      have q := x.cell y c e
      rw [bindC_get ndP hp hu (by show scope.names.lookup y ≠ _; rw [k]; decide)] at q
      exact q
  · exact e0.hok.fresh (Nat.le_of_lt (x.above y c (PySem.mem_of_lookup h)))
  · unfold start
    show _ = N.length
    rw [List.length_append, List.length_map, List.length_replicate]
    omega

/-- THE RULE: a def (or a method) of the text, by its body. The body's reading t is chosen for each entry; it is run at the parameters' values -/
theorem fn_of {CX : CXT} {P : Program} {w : World} {K : PySem.W.Frag} {mg : Str → Option Value} {base : Heap} {k : Nat} {f : Addr} {name qual : Str} {params : Arguments} {body : List Stmt} {scope : Scope} {dV kV doc pm cdv ct oc : Value} {an od : Option Addr}
    {osl : Array (Option Value)} {N ps : List Str} {sp : Sp} (lk : K.lookup f = some ⟨oc, od, .func (PySem.W.fnOf name qual params body scope dV kV doc pm an cdv ct), osl⟩) (hcd : PySem.W.codeIn K cdv qual = true) (S : FnScope N ps scope)
    (len : ∀ vs H Q E, sp vs H Q E → vs.length = ps.length)
    (hbody : ∀ (A : Around) (outer : List Env) (s : Shared) (H : Hp) (vs : List V) (Q : VK) (E : XK), Room k (A.deeper (envOfC qual scope s.heap.objs.size f cdv)) → sp vs H Q E →
      ∃ t, PSs (cxOf CX P w K mg base N qual scope f cdv A outer s H E) body t ∧ t { nx := fun _ H' => Q .non H', rt := Q } (start N vs) H) :
    FnOk P w K mg base CX (k + 1) f (PySem.W.fnOf name qual params body scope dV kV doc pm an cdv ct) ps sp := by
  refine ⟨len, fun A outer s H args us vs Q E hr e0 hb r hsp => ?_⟩
  have hl := len _ _ _ _ hsp
  have KX : K.In s.heap := e0.mod.kin.keeps fun b o e => (e0.bs b o e).1
  have lim : s.heap.NoLimit := e0.mod.nolimit.keeps fun b o e => (e0.bs b o e).1
  have hkind : ∀ y ∈ ps.zip us, scope.names.lookup y.1 = some .local ∨ (scope.names.lookup y.1 = some .cell ∧ ((cellsFrom (s.heap.objs.size + 1) scope.names []).lookup y.1).isSome = true) := fun ⟨n, v⟩ hy => by
    rcases S.par n (List.of_mem_zip hy).1 with q | q
    · exact .inl q
    · exact .inr ⟨q, PySem.W.cellsFrom_some _ _ _ (.inl q)⟩
  refine codeAny_call_function hr.depth (KX _ _ lk) rfl S.co S.gen rfl (PySem.W.codeRec_of KX hcd) (hb _ _ _ _ ?_)
  refine wpAny_with_toks (n := 1) e0.tk (wpAny_newFunctionEnv_cells S.kind hkind fun env he s1 x htk => ?_)
  subst he
  refine ⟨lim.keeps x.toInCall.keep, codeAny_func ?_⟩
  obtain ⟨t, ht, hq⟩ := hbody A outer s H vs Q E (hr.deeper _) hsp
  have I : Inv (cxOf CX P w K mg base N qual scope f cdv A outer s H E) [] (start N vs) H s1 := inv_start S hr.hd e0 hl r x htk
  refine wpAny_mono (ht [] s1 (start N vs) H _ I hq) (fun fl s' hs => ?_) fun e s' hs => hs
  have fin : ∀ {σ' : St} {H' : Hp} {v : V} {u : Value}, Inv (cxOf CX P w K mg base N qual scope f cdv A outer s H E) [] σ' H' s' → RelV v u → Q v H' → CE outer P w H s Q u s' :=
    fun {σ' H' v u} J rv q => ⟨v, H', J.tk, J.os, J.bare, J.base, J.hok, rv, q⟩
  cases fl with
  | ret u =>
    obtain ⟨v, σ', H', J, rv, q⟩ := hs
    exact fin J rv q
  | next =>
    obtain ⟨σ', H', J, q⟩ := hs
    exact fin (v := V.non) (u := Value.none) J rfl q
  | brk =>
    obtain ⟨_, _, _, q⟩ := hs
    exact False.elim q
  | cont =>
    obtain ⟨_, _, _, q⟩ := hs
    exact False.elim q
end L2

namespace L2
open PySem PySem.Spec PyProof.Rows
section
variable {X : Cx} {x : Str} {p pos : Pos} {e : Expr} {es : List Expr} {t : TA} {id T : String} {r : List V → Hp → VK → Prop}

def tCB (r : List V → Hp → VK → Prop) (t : TA) : TE := fun σ H Q => t σ H fun vs H1 => r vs H1 Q
/-- f(e, ..), f a built-in function -/
theorem pe_callB (hc : CallR X (.builtin id) r) (hg : Gl X x) (hm : X.mg x = none) (hv : bootBuiltins x = some (.builtin id)) (ha : PA X (e :: es) t) (hn : x ≠ "__name__" := by decide) (hdb : (x == ("__debug__" : Str)) = false := by decide)
    (he : starEach (e :: es) X.env = (false, eval e X.env) :: starEach es X.env := by rfl) (hpl : (backTo pos (starEach es X.env)).any (·.1) = false := by rfl) : PE X (.Call (.Name x p) (e :: es) [] pos) (tCB r t) := by
  intro pins s σ H Q I h
  refine wpAny_Call_Name_kw (ld_blt I hg hm hv ?_ hn hdb)
  exact PyProof.Rows.callWith_builtin1 (thn (ha pos pins s σ H _ I h) fun us s1 ⟨vs, H1, I1, r1, q1⟩ => hc pins s1 σ H1 vs us Q I1 r1 q1) he hpl
/-- T(e, ..), T a built-in type -/
theorem pe_callTy (hc : CallR X (.type T) r) (hg : Gl X x) (hm : X.mg x = none) (hv : bootBuiltins x = some (.type T)) (ha : PA X (e :: es) t) (hn : x ≠ "__name__" := by decide) (hdb : (x == ("__debug__" : Str)) = false := by decide)
    (he : starEach (e :: es) X.env = (false, eval e X.env) :: starEach es X.env := by rfl) (hpl : (backTo pos (starEach es X.env)).any (·.1) = false := by rfl) : PE X (.Call (.Name x p) (e :: es) [] pos) (tCB r t) := by
  intro pins s σ H Q I h
  refine wpAny_Call_Name_kw (ld_blt I hg hm hv ?_ hn hdb)
  exact PyProof.Rows.callWith_type1 (thn (ha pos pins s σ H _ I h) fun us s1 ⟨vs, H1, I1, r1, q1⟩ => hc pins s1 σ H1 vs us Q I1 r1 q1) he hpl
/-- T() -/
theorem pe_callTy0 (hc : CallR X (.type T) r) (hg : Gl X x) (hm : X.mg x = none) (hv : bootBuiltins x = some (.type T)) (hn : x ≠ "__name__" := by decide) (hdb : (x == ("__debug__" : Str)) = false := by decide) :
    PE X (.Call (.Name x p) [] [] pos) (tCB r tNil) := by
  intro pins s σ H Q I h
  refine wpAny_Call_Name_kw (ld_blt I hg hm hv ?_ hn hdb)
  exact PyProof.Rows.callWith_type0 (hc pins s σ H [] [] Q I .nil h)
end
end L2

namespace HT
open PySem PyProof.Rows

/-- t < u of tuples of ints -/
def lexLt : List Int → List Int → Bool
  | [], [] => false
  | [], _ :: _ => true
  | _ :: _, [] => false
  | x :: xs, y :: ys => if x = y then lexLt xs ys else decide (x < y)
theorem lexLt_cons (x y : Int) (xs ys : List Int) : lexLt (x :: xs) (y :: ys) = if x = y then lexLt xs ys else decide (x < y) := rfl
theorem lexLt_nil_nil : lexLt [] [] = false := rfl
theorem lexLt_nil_cons (y : Int) (ys : List Int) : lexLt [] (y :: ys) = true := rfl
theorem lexLt_cons_nil (x : Int) (xs : List Int) : lexLt (x :: xs) [] = false := rfl

theorem eqAt_int (A : Around) (s : Shared) (a : Int) (t : Tok) (c : Int) (u : Tok) : ∃ e, SeqAt.EqAt A s (.int a t) (.int c u) e ∧ (e = true ↔ a = c) :=
  ⟨(a == c), SeqAt.EqAt.int_int a t c u, by simp⟩
theorem rcLt_int (A : Around) (s : Shared) (a : Int) (t : Tok) (c : Int) (u : Tok) (prog : Program) (w : World) (E : Value → Shared → Prop) (Q : Value → Shared → Prop) (h : Q (.bool (decide (a < c))) s) :
    wpAny (model prog w) A (richCompare .Lt (.int a t) (.int c u)) Q E s :=
  (PyProof.Rows.lt_int h : wpAny (model prog w) A (compareOp .Lt (.int a t) (.int c u)) Q E s)

section
open PySem.SeqAt
open PySem.AutoSeq1 (wpAny_loadPart')
open PySem.MeetsSeq PySem.MeetsSeq2 PySem.MeetsSeq3

theorem tuple_lt_ints (l b : Addr) (items items2 : Array Value) (n n2 : Nat) (dd dd2 : Option Addr) (sl sl2 : Array (Option Value)) (ns ms : List Int) (hi : IntsAre items.toList ns) (hj : IntsAre items2.toList ms) :
    Meets (Builtin.«tuple.__lt__» ⟨[.ref l, .ref b], []⟩)
      (fun _ R s => s.heap.get? l = some { cls := .type "tuple", dict := dd, data := .seq items n, slots := sl } ∧ s.heap.get? b = some { cls := .type "tuple", dict := dd2, data := .seq items2 n2, slots := sl2 } ∧
        R (.ok (.ret (.bool (lexLt ns ms)))) s) :=
  .of_wp fun prog w A R s h => by
    obtain ⟨hp, g, d, tk, os⟩ := s; obtain ⟨hl, hb, h⟩ := h
    have f2 := AutoSeq1.sub_tuple_tuple
    have z1 : items.size = ns.length := by rw [← hi.length]; simp
    have z2 : items2.size = ms.length := by rw [← hj.length]; simp
    wp_walk using wpAny_loadPart' hl, wpAny_loadPart' hb, wpAny_forIn_list _ (fun rest b s' => b.1 = none ∧ s' = ⟨hp, g, d, tk, os⟩ ∧ ∃ (vs ws : List Value) (ns' ms' : List Int), rest = vs.zip ws ∧
      IntsAre vs ns' ∧ IntsAre ws ms' ∧ ns'.length + items2.size = ms'.length + items.size ∧ R (.ok (.ret (.bool (lexLt ns' ms')))) ⟨hp, g, d, tk, os⟩) _
    case turn =>
      rintro ⟨y, x⟩ rest b s' ⟨hb', rfl, vs, ws, ns', ms', hz, hvi, hwi, hlen, hR⟩
      cases hvi with
      | nil => rw [List.zip_nil_left] at hz; cases hz
      | cons a t hvi' =>
        cases hwi with
        | nil => rw [List.zip_nil_right] at hz; cases hz
        | cons c u hwi' =>
          rw [List.zip_cons_cons] at hz
          injection hz with hyx hrest
          injection hyx with hy hx
          subst hy hx
          rw [lexLt_cons] at hR
          simp only [List.length_cons] at hlen
          obtain ⟨e, he, hiff⟩ := eqAt_int A.in1 ⟨hp, g, d, tk, os⟩ a t c u
          refine wpAny_bind (he prog w _ _ ?_)
          cases e with
          | true =>
            rw [if_pos (hiff.mp rfl)] at hR
            wp_walk
            exact ⟨rfl, rfl, _, _, _, _, hrest, hvi', hwi', by omega, hR⟩
          | false =>
            rw [if_neg (fun q => absurd (hiff.mpr q) Bool.false_ne_true)] at hR
            have hri := rcLt_int A.in1 ⟨hp, g, d, tk, os⟩ a t c u prog w
            wp_walk using hri
            exact ⟨_, rfl, by simpa using hR⟩
    case fin =>
      rintro ⟨b1, b2⟩ s' ⟨hb', rfl, vs, ws, ns', ms', hz, hvi, hwi, hlen, hR⟩
      simp only at hb'
      subst hb'
      have hv : lexLt ns' ms' = decide (items.size < items2.size) := by
        cases hvi with
        | nil =>
          cases hwi with
          | nil =>
            simp only [List.length_nil] at hlen
            rw [lexLt_nil_nil]
            exact (decide_eq_false (by omega)).symm
          | cons c u hw =>
            simp only [List.length_nil, List.length_cons] at hlen
            rw [lexLt_nil_cons]
            exact (decide_eq_true (by omega)).symm
        | cons a t hv =>
          cases hwi with
          | nil =>
            simp only [List.length_nil, List.length_cons] at hlen
            rw [lexLt_cons_nil]
            exact (decide_eq_false (by omega)).symm
          | cons c u hw =>
            rw [List.zip_cons_cons] at hz
            cases hz
      rw [hv] at hR
      wp_walk
      exact ⟨_, rfl, by simpa [Builtin.Tuple.tupleCompareSizes] using hR⟩
    case h =>
      exact ⟨rfl, rfl, items.toList, items2.toList, ns, ms, rfl, hi, hj, by omega, h⟩
end

section
variable {prog : Program} {w : World} {A : Around} {E : Value → Shared → Prop} {s : Shared}

theorem lt_tupInts {l b : Addr} {items items2 : Array Value} {ns ms : List Int} {Q : Value → Shared → Prop} (hl : IsTup s.heap l items) (hb : IsTup s.heap b items2) (hi : IntsAre items.toList ns) (hj : IntsAre items2.toList ms)
    (hu : A.units < cLine) (h : Q (.bool (lexLt ns ms)) s) : wpAny (model prog w) A (compareOp .Lt (.ref l) (.ref b)) Q E s := by
  obtain ⟨⟨cls, dd, data, sl⟩, ho, hc, n, hd⟩ := id hl
  obtain ⟨⟨cls2, dd2, data2, sl2⟩, ho2, hc2, n2, hd2⟩ := id hb
  simp only at hc hd hc2 hd2
  subst hc hd hc2 hd2
  exact richCompare_meets_room (op := .Lt) ⟨_, ho, rfl⟩ ⟨_, ho2, rfl⟩ PySem.F.slot_tuple_lt PySem.F.entry_tuple_lt (PySem.F.args_tuple_lt_2 _ _) (tuple_lt_ints l b items items2 n n2 dd dd2 sl sl2 ns ms hi hj)
    ⟨ho, ho2, show Value.bool (lexLt ns ms) ≠ Value.notImplemented ∧ Q (.bool (lexLt ns ms)) s from ⟨(fun x => nomatch x), h⟩⟩ hu

/-- t + u, t not empty -/
theorem cat_tup {t b : Addr} {vs ws : List Value} {Q : Value → Shared → Prop} (ht : IsTup s.heap t vs.toArray) (hb : IsTup s.heap b ws.toArray) (hv : vs ≠ [])
    (h1 : ws = [] → Q (.ref t) s) (h2 : ws ≠ [] → Q (.ref s.heap.objs.size) { s with heap := s.heap.push { cls := .type "tuple", data := .seq (vs ++ ws).toArray } })
    (hsz : vs.length + ws.length ≤ sizeLine) : wpAny (model prog w) A (binaryOp .Add (.ref t) (.ref b)) Q E s := by
  obtain ⟨⟨cls, dd, data, sl⟩, ho, hc, n, hd⟩ := id ht
  obtain ⟨⟨cls2, dd2, data2, sl2⟩, ho2, hc2, n2, hd2⟩ := id hb
  simp only at hc hd hc2 hd2
  subst hc hd hc2 hd2
  have e : vs.toArray ++ ws.toArray = (vs ++ ws).toArray := by simp
  by_cases hw : ws = []
  · exact concat_meets ⟨_, ho, rfl⟩ ⟨_, ho2, rfl⟩ noFill_tuple_add seq_tuple_add PySem.F.slot_tuple_add PySem.F.entry_tuple_add (PySem.F.args_tuple_add_2 _ _)
      (tuple_addW1 t b vs.toArray ws.toArray n n2 dd dd2 sl sl2 (by simpa using hv) (by simp [hw])) ⟨ho, ho2, h1 hw⟩
  · refine concat_meets ⟨_, ho, rfl⟩ ⟨_, ho2, rfl⟩ noFill_tuple_add seq_tuple_add PySem.F.slot_tuple_add PySem.F.entry_tuple_add (PySem.F.args_tuple_add_2 _ _)
      (tuple_addW2 t b vs.toArray ws.toArray n n2 dd dd2 sl sl2 (by simpa using hv) (by simpa using hw) (by rw [List.size_toArray, List.size_toArray]; exact hsz)) ⟨ho, ho2, ?_⟩
    rw [e]
    exact h2 hw

/-! ### t[a:b], not the whole -/
/-- a slice's bound as a place among n (d where it is left out) -/
def sIx (n d : Nat) : Option Int → Nat
  | none => d
  | some v => if v < 0 then (v + (n : Int)).toNat else min v.toNat n
theorem sIx_none (n d : Nat) : sIx n d none = d := rfl
theorem sIx_nat (n d k : Nat) : sIx n d (some (k : Int)) = min k n := by
  show (if (k : Int) < 0 then ((k : Int) + (n : Int)).toNat else min (k : Int).toNat n) = min k n
  rw [if_neg (by omega), Int.toNat_natCast]
theorem sIx_le (n d : Nat) (hd : d ≤ n) (o : Option Int) : sIx n d o ≤ n := by
  cases o with
  | none => exact hd
  | some v =>
    show (if v < 0 then (v + (n : Int)).toNat else min v.toNat n) ≤ n
    by_cases hv : v < 0
    · rw [if_pos hv]; omega
    · rw [if_neg hv]; exact Nat.min_le_right _ _
theorem clip_eq (v : Int) (n d : Nat) : (if v < 0 then max (v + (n : Int)) 0 else min v (n : Int)) = ((sIx n d (some v) : Nat) : Int) := by
  show (if v < 0 then max (v + (n : Int)) 0 else min v (n : Int)) = (((if v < 0 then (v + (n : Int)).toNat else min v.toNat n) : Nat) : Int)
  by_cases hv : v < 0
  · simp only [if_pos hv]; omega
  · simp only [if_neg hv]; omega
theorem adjust_gen (lo hi : Option Int) (n : Nat) : Builtin.Slice.sliceAdjust lo hi 1 (n : Int) = (((sIx n 0 lo : Nat) : Int), ((sIx n n hi : Nat) : Int)) := by
  have h1 : ¬ ((1 : Int) < 0) := by omega
  unfold Builtin.Slice.sliceAdjust
  simp only [h1, if_false]
  refine Prod.ext ?_ ?_
  · cases lo with
    | none => rfl
    | some v => exact clip_eq v n 0
  · cases hi with
    | none => rfl
    | some v => exact clip_eq v n n
theorem places_gen (i j : Nat) : Builtin.Slice.slicePlaces (i : Int) (j : Int) 1 = j - i := by
  unfold Builtin.Slice.slicePlaces
  have h1 : (1 : Int) > 0 := by omega
  simp only [h1, if_true, Int.ediv_one]
  split <;> omega
theorem slicePart_ {v : Value} {o : Option Int} {Q : Option Int → Shared → Prop} (p : IsPart v o) (h : Q o s) : wpAny (model prog w) A (Builtin.Slice.slicePartIndex v) Q E s := by
  cases p with
  | none => exact slicePart_none h
  | int i t => exact slicePart_int h
theorem sliceApplied_gen {sl : Addr} {vl vu : Value} {lo hi : Option Int} {n : Nat} {Q : Int × Int × Nat → Shared → Prop} (hs : s.heap.IsSliceOf sl vl vu .none) (pl : IsPart vl lo) (pu : IsPart vu hi)
    (h : Q (((sIx n 0 lo : Nat) : Int), 1, sIx n n hi - sIx n 0 lo) s) : wpAny (model prog w) A (Builtin.Slice.sliceApplied (.ref sl) (pure (n : Int))) Q E s := by
  obtain ⟨os, hos, hcs, hds⟩ := id hs
  unfold Builtin.Slice.sliceApplied Builtin.Slice.sliceFields
  refine wpAny_bind (wpAny_bind (wpAny_field hos hds (x := vl) rfl (wpAny_bind (wpAny_field hos hds (x := vu) rfl (wpAny_bind (wpAny_field hos hds (x := .none) rfl (wpAny_pure ?_)))))))
  refine wpAny_bind (slicePart_none ?_)
  show wpAny _ _ (if ((1 : Int) == 0) = true then _ else _) _ _ s
  rw [if_neg (by decide)]
  refine wpAny_bind (slicePart_ pl (wpAny_bind (slicePart_ pu (wpAny_bind (wpAny_pure ?_)))))
  show wpAny _ _ (match Builtin.Slice.sliceAdjust lo hi 1 (n : Int) with | (lo, hi) => pure (lo, (1 : Int), Builtin.Slice.slicePlaces lo hi 1)) _ _ s
  rw [adjust_gen lo hi n]
  show wpAny _ _ (pure (((sIx n 0 lo : Nat) : Int), (1 : Int), Builtin.Slice.slicePlaces ((sIx n 0 lo : Nat) : Int) ((sIx n n hi : Nat) : Int) 1)) _ _ s
  rw [places_gen]
  exact wpAny_pure h
theorem pick_gen (xs : Array Value) (i k : Nat) : ((List.range k).filterMap fun (m : Nat) => xs[((i : Int) + (m : Int) * 1).toNat]?).toArray = ((xs.toList.drop i).take k).toArray := by
  have e : (fun (m : Nat) => xs[((i : Int) + (m : Int) * 1).toNat]?) = fun m => xs[i + m]? := by
    funext m
    have : ((i : Int) + (m : Int) * 1).toNat = i + m := by omega
    rw [this]
  rw [e]
  have := pick_run xs i k
  rw [List.filterMap_map] at this
  have e2 : ((fun x => xs[x]?) ∘ fun x => i + x) = fun m => xs[i + m]? := rfl
  rw [e2] at this
  rw [this]

theorem getItem_tuple_cut {t sl : Addr} {items : Array Value} {vl vu : Value} {lo hi : Option Int} {Q : Value → Shared → Prop} (ht : IsTup s.heap t items) (hs : s.heap.IsSliceOf sl vl vu .none) (pl : IsPart vl lo) (pu : IsPart vu hi)
    (hw : ¬ (sIx items.size 0 lo = 0 ∧ sIx items.size items.size hi = items.size))
    (h : Q (.ref s.heap.objs.size) { s with heap := s.heap.push { cls := .type "tuple", data := .seq ((items.toList.drop (sIx items.size 0 lo)).take (sIx items.size items.size hi - sIx items.size 0 lo)).toArray } })
    (hsz : items.size ≤ sizeLine) : wpAny (model prog w) A (getItem (.ref t) (.ref sl)) Q E s := by
  have htake : sizeOk (.seq ((items.toList.drop (sIx items.size 0 lo)).take (sIx items.size items.size hi - sIx items.size 0 lo)).toArray) := by
    show ((items.toList.drop (sIx items.size 0 lo)).take (sIx items.size items.size hi - sIx items.size 0 lo)).toArray.size ≤ sizeLine
    rw [List.size_toArray, List.length_take, List.length_drop, Array.length_toList]
    omega
  have hj : sIx items.size items.size hi ≤ items.size := sIx_le _ _ (Nat.le_refl _) hi
  obtain ⟨os, hos, hcs, hds⟩ := id hs
  have hTs : s.TypeIs (.ref sl) "slice" := ⟨os, hos, hcs⟩
  unfold getItem
  try with_reducible refine wpAny_holding ?_
  first | refine wpAny_bind (wpAny_pure ?_) | skip
  refine wpAny_bind (wpAny_sequenceKey ht.typeIs (by decide) ?_)
  refine wpAny_bind (wpAny_callSpecial?_slot (name := Str.ofString "__getitem__") ht.typeIs PyProof.Rows.slot_tuple_getitem
    (wpAny_call_entry PyProof.Rows.slot_tuple_getitem ht.typeIs entry_tuple_getitem ?_ (args_tuple_getitem _ _)))
  show wpAny _ _ (Builtin.Tuple.tupleItemsOf (.ref t) >>= _) _ _ s
  refine wpAny_bind (tupleItemsOf_ ht ?_)
  refine wpAny_bind (wpAny_typeOf hTs ?_)
  rw [if_pos (by decide)]
  refine wpAny_bind (sliceApplied_gen hs pl pu ?_)
  have hno : ¬ ((((sIx items.size 0 lo : Nat) : Int) == 0 && (1 : Int) == 1 && (sIx items.size items.size hi - sIx items.size 0 lo) == items.size) = true) := by
    intro q
    rw [Bool.and_eq_true, Bool.and_eq_true] at q
    have q1 : ((sIx items.size 0 lo : Nat) : Int) = 0 := eq_of_beq q.1.1
    have q2 : sIx items.size items.size hi - sIx items.size 0 lo = items.size := eq_of_beq q.2
    exact hw ⟨by omega, by omega⟩
  show wpAny _ _ (if (((sIx items.size 0 lo : Nat) : Int) == 0 && (1 : Int) == 1 && (sIx items.size items.size hi - sIx items.size 0 lo) == items.size) = true then _ else _) _ _ s
  rw [if_neg hno, pick_gen]
  first
    | exact wpAny_bind (m := Builtin.Tuple.tupleExact _) (wpAny_newObj_type (wpAny_pure ⟨_, rfl, wpAny_pure h⟩) htake)
    | exact wpAny_bind (m := Builtin.Tuple.tupleExact _) (wpAny_newObj_type (wpAny_bind (wpAny_pure (wpAny_pure ⟨_, rfl, wpAny_pure h⟩))) htake)
    | exact wpAny_bind (wpAny_bind (m := Builtin.Tuple.tupleExact _) (wpAny_newObj_type (wpAny_pure (wpAny_pure ⟨_, rfl, wpAny_pure h⟩)) htake))
    | exact wpAny_bind (wpAny_bind (m := Builtin.Tuple.tupleExact _) (wpAny_newObj_type (wpAny_pure ⟨_, rfl, wpAny_pure h⟩) htake))
end
end HT

namespace L2
open PySem PySem.Spec PyProof.Rows

/-! ### the parts of a slice -/
abbrev TO := St → Hp → (Option Int → Hp → Prop) → Prop
/-- a slice's part (left out, or an int) -/
def PO (X : Cx) (e : Option Expr) (t : TO) : Prop :=
  ∀ (pins : List (Addr × Obj)) (s : Shared) (σ : St) (H : Hp) (Q : Option Int → Hp → Prop), Inv X pins σ H s → t σ H Q →
    wpAny (model X.prog X.w) X.A (evalPart e X.env) (fun u s' => ∃ o H', Inv X pins σ H' s' ∧ IsPart u o ∧ Q o H') X.xe s
def tNoPart : TO := fun _ H Q => Q none H
def tPart (t : TE) : TO := fun σ H Q => t σ H fun x H1 => ∃ i, x = .int i ∧ Q (some i) H1

theorem intsAre_of {ns : List Int} : ∀ {us : List Value}, Vals (ns.map V.int) us → IntsAre us ns := by
  induction ns with
  | nil => intro us r; rw [List.map_nil] at r; cases r; exact .nil
  | cons n ns ih =>
    intro us r
    rw [List.map_cons] at r
    cases r with
    | cons r1 r2 =>
      obtain ⟨t, e⟩ := r1
      subst e
      exact .cons n t (ih r2)

section
variable {X : Cx} {e : Expr} {te : TE} {lo hi : Option Expr} {tl th : TO} {pos p2 : Pos}

theorem po_none : PO X none tNoPart := by
  intro pins s σ H Q I h
  rw [evalPart_none]
  exact wpAny_pure ⟨none, H, I, .none, h⟩
theorem po_some (h : PE X e te) : PO X (some e) (tPart te) := by
  intro pins s σ H Q I hw
  rw [evalPart_some]
  refine thn (h pins s σ H _ I hw) fun u s1 ⟨x, H1, I1, r1, q1⟩ => ?_
  obtain ⟨i, rfl, q⟩ := q1
  obtain ⟨t, rfl⟩ := r1
  exact ⟨some i, H1, I1, .int i t, q⟩

/-- what a slice of a value is, by values: the slice object stands at sl -/
def SlR (X : Cx) (r : V → Option Int → Option Int → Hp → VK → Prop) : Prop :=
  ∀ (pins : List (Addr × Obj)) (s : Shared) (σ : St) (H : Hp) (x : V) (v vl vu : Value) (lo hi : Option Int) (sl : Addr) (Q : VK), Inv X pins σ H s → RelV x v → s.heap.IsSliceOf sl vl vu .none → IsPart vl lo → IsPart vu hi → r x lo hi H Q →
    ∃ T id, typeLookup (.type T) "__getitem__" = pure (some (.builtin id)) ∧ s.TypeIs v T ∧ wpAny (model X.prog X.w) X.A (getItem v (.ref sl)) (EP X pins σ Q) X.xe s
theorem SlR.or {r r' : V → Option Int → Option Int → Hp → VK → Prop} (h : SlR X r) (h' : SlR X r') : SlR X (fun x lo hi H Q => r x lo hi H Q ∨ r' x lo hi H Q) := by
  intro pins s σ H x v vl vu lo hi sl Q I rx hs pl pu q
  rcases q with q | q
  · exact h pins s σ H x v vl vu lo hi sl Q I rx hs pl pu q
  · exact h' pins s σ H x v vl vu lo hi sl Q I rx hs pl pu q
def tSl (r : V → Option Int → Option Int → Hp → VK → Prop) (te : TE) (tl th : TO) : TE := fun σ H Q => te σ H fun x H1 => tl σ H1 fun l H2 => th σ H2 fun u H3 => r x l u H3 Q
/-- a[lo:hi], any a -/
theorem pe_slice {r : V → Option Int → Option Int → Hp → VK → Prop} (hr : SlR X r) (he : PE X e te) (hl : PO X lo tl) (hu : PO X hi th) : PE X (.Subscript e (.Slice lo hi none p2) pos) (tSl r te tl th) := by
  intro pins s σ H Q I h
  refine Subscript_ (thn (he pins s σ H _ I h) fun v s1 ⟨x, H1, I1, r1, q1⟩ => ?_)
  refine wpAny_Slice (thn (hl pins s1 σ H1 _ I1 q1) fun vl s2 ⟨l, H2, I2, pl, q2⟩ => thn (hu pins s2 σ H2 _ I2 q2) fun vu s3 ⟨u, H3, I3, pu, q3⟩ => ?_)
  rw [evalPart_none]
  refine wpAny_pure ?_
  have I4 : Inv X pins σ H3 { s3 with heap := s3.heap.push { cls := .type "slice", data := .fields #[vl, vu, .none] } } := I3.kept (t' := s3.toks) fun b ob q => Heap.get?_push_of_some _ q
  obtain ⟨T, id, hT, ht, hg⟩ := hr pins { s3 with heap := s3.heap.push { cls := .type "slice", data := .fields #[vl, vu, .none] } } σ H3 x v vl vu l u s3.heap.objs.size Q I4 r1 (Heap.IsSliceOf.new ..) pl pu q3
  show wpAny (model X.prog X.w) X.A (subscriptTail e (.Slice lo hi none p2) v (.ref s3.heap.objs.size)) (EP X pins σ Q) X.xe { s3 with heap := s3.heap.push { cls := .type "slice", data := .fields #[vl, vu, .none] } }
  exact tail_any (ops := [.ref s3.heap.objs.size, v]) ht hT hg (by with_unfolding_all rfl)

/-- the items of xs[lo:hi] -/
def cutV (xs : List V) (lo hi : Option Int) : List V := (xs.drop (HT.sIx xs.length 0 lo)).take (HT.sIx xs.length xs.length hi - HT.sIx xs.length 0 lo)
theorem cutV_length (xs : List V) (lo hi : Option Int) : (cutV xs lo hi).length ≤ xs.length := by
  unfold cutV
  rw [List.length_take, List.length_drop]
  omega
/-- t[lo:hi], not the whole of it (the whole would be t itself) -/
def rSlT (K : PySem.W.Frag) : V → Option Int → Option Int → Hp → VK → Prop := fun x lo hi H Q => ∃ a xs, x = .ref a ∧ SqT K H a xs ∧
  ¬ (HT.sIx xs.length 0 lo = 0 ∧ HT.sIx xs.length xs.length hi = xs.length) ∧ ∀ p, H p = none → Q (.ref p) (upd H p (.tup (cutV xs lo hi)))
theorem sl_tup : SlR X (rSlT X.K) := by
  intro pins s σ H x v vl vu lo hi sl Q I rx hs pl pu h
  obtain ⟨a, xs, rfl, hx, hw, q⟩ := h
  cases rx
  obtain ⟨its, r, ht, hz⟩ := I.tuple hx
  have hlen : its.toArray.size = xs.length := by rw [List.size_toArray]; exact r.length.symm
  refine ⟨"tuple", _, PyProof.Rows.slot_tuple_getitem.lookup, ht.typeIs, ?_⟩
  refine HT.getItem_tuple_cut ht hs pl pu (by rw [hlen]; exact hw) ?_ (by rw [hlen]; exact hz)
  rw [hlen]
  refine ⟨.ref s.heap.objs.size, _, I.laid (t' := s.toks) (o := .tup (cutV xs lo hi)) (fun b ob q => Heap.get?_push_of_some _ q) (Nat.le_refl _) ?_, rfl, q _ (I.hok.fresh (Nat.le_refl _))⟩
  exact ⟨Nat.le_trans (cutV_length xs lo hi) hz, _, (r.drop (HT.sIx xs.length 0 lo)).take (HT.sIx xs.length xs.length hi - HT.sIx xs.length 0 lo), IsTup.new _ _⟩

/-! ### t < u, t + u -/
def rLtT (K : PySem.W.Frag) : R2 := fun x y H Q => ∃ a b ns ms, x = .ref a ∧ y = .ref b ∧ SqT K H a (ns.map V.int) ∧ SqT K H b (ms.map V.int) ∧ Q (.bl (HT.lexLt ns ms)) H
theorem op_ltT (hu : X.A.units < cLine) : OpR X (compareOp .Lt) (rLtT X.K) := by
  intro pins s σ H x y v u Q I rx ry h
  obtain ⟨a, b, ns, ms, rfl, rfl, ha, hb, q⟩ := h
  cases rx
  cases ry
  obtain ⟨its, r1, p1, _⟩ := I.tuple ha
  obtain ⟨its2, r2, p2, _⟩ := I.tuple hb
  have i1 : IntsAre its.toArray.toList ns := intsAre_of r1
  have i2 : IntsAre its2.toArray.toList ms := intsAre_of r2
  exact HT.lt_tupInts p1 p2 i1 i2 hu ⟨.bl (HT.lexLt ns ms), H, I, rfl, q⟩
/-- t + u, t not empty: u empty gives t itself -/
def rCatT (K : PySem.W.Frag) : R2 := fun x y H Q => ∃ a b xs ys, x = .ref a ∧ y = .ref b ∧ SqT K H a xs ∧ SqT K H b ys ∧ xs ≠ [] ∧ xs.length + ys.length ≤ sizeLine ∧
  (ys = [] → Q (.ref a) H) ∧ (ys ≠ [] → ∀ p, H p = none → Q (.ref p) (upd H p (.tup (xs ++ ys))))
theorem Vals.nil_iff {xs : List V} {us : List Value} (r : Vals xs us) : us = [] ↔ xs = [] := by
  cases r with
  | nil => simp
  | cons _ _ => simp
theorem op_catT : OpR X (binaryOp .Add) (rCatT X.K) := by
  intro pins s σ H x y v u Q I rx ry h
  obtain ⟨a, b, xs, ys, rfl, rfl, ha, hb, hx, hz, q1, q2⟩ := h
  cases rx
  cases ry
  obtain ⟨its, r1, p1, _⟩ := I.tuple ha
  obtain ⟨its2, r2, p2, _⟩ := I.tuple hb
  refine HT.cat_tup p1 p2 (fun z => hx (r1.nil_iff.mp z)) (fun z => ⟨.ref a, H, I, rfl, q1 (r2.nil_iff.mp z)⟩) (fun z => ?_) (by rw [← r1.length, ← r2.length]; exact hz)
  refine ⟨.ref s.heap.objs.size, _, I.laid (t' := s.toks) (o := .tup (xs ++ ys)) (fun b ob q => Heap.get?_push_of_some _ q) (Nat.le_refl _) ?_, rfl, q2 (fun w => z (r2.nil_iff.mpr w)) _ (I.hok.fresh (Nat.le_refl _))⟩
  exact ⟨by rw [List.length_append]; exact hz, _, r1.append r2, IsTup.new _ _⟩
/-- tuple(t) -/
theorem call_tupleT : CallR X (.type "tuple") (fun xs H Q => ∃ a ys, xs = [.ref a] ∧ SqT X.K H a ys ∧ Q (.ref a) H) := by
  intro pins s σ H xs us Q I r h
  obtain ⟨a, ys, rfl, ha, q⟩ := h
  obtain ⟨u, rfl, ru⟩ := vals1 r
  cases ru
  obtain ⟨its, _, p1, _⟩ := I.tuple ha
  exact call_tuple_same (items := its.toArray) p1 ⟨.ref a, H, I, rfl, q⟩
end
end L2

namespace L2
open PySem PySem.Spec PyProof.Rows

/-! ### places -/
/-- the place that an index of any sign means -/
def ixN (n : Nat) (i : Int) : Option Nat := if 0 ≤ i then (if i < n then some i.toNat else none) else if -(n : Int) ≤ i then some (i + n).toNat else none
def atI {α : Type} (xs : List α) (i : Int) : Option α := (ixN xs.length i).bind fun j => xs[j]?
theorem ixN_seq {n : Nat} {i : Int} {j : Nat} (h : ixN n i = some j) : seqIndex? i n = some j ∧ j < n ∧ -(n : Int) ≤ i ∧ i < n := by
  unfold ixN at h
  by_cases h0 : 0 ≤ i
  · rw [if_pos h0] at h
    by_cases h1 : i < n
    · rw [if_pos h1] at h
      have e : i.toNat = j := Option.some.inj h
      exact ⟨by rw [seqIndex_of h0 h1, e], by omega, by omega, h1⟩
    · rw [if_neg h1] at h; cases h
  · rw [if_neg h0] at h
    by_cases h1 : -(n : Int) ≤ i
    · rw [if_pos h1] at h
      have e : (i + n).toNat = j := Option.some.inj h
      exact ⟨by rw [seqIndex_neg (by omega) h1, e], by omega, h1, by omega⟩
    · rw [if_neg h1] at h; cases h
theorem atI_get {α : Type} {xs : List α} {i : Int} {v : α} (h : atI xs i = some v) : ∃ j, seqIndex? i xs.length = some j ∧ xs[j]? = some v ∧ j < xs.length ∧ -(xs.length : Int) ≤ i ∧ i < xs.length := by
  unfold atI at h
  cases e : ixN xs.length i with
  | none => rw [e] at h; cases h
  | some j =>
    rw [e] at h
    obtain ⟨h1, h2, h3, h4⟩ := ixN_seq e
    exact ⟨j, h1, h, h2, h3, h4⟩
theorem atI_nat {α : Type} {xs : List α} {j : Nat} {v : α} (h : xs[j]? = some v) : atI xs (j : Int) = some v := by
  have hj : j < xs.length := (List.getElem?_eq_some_iff.mp h).1
  have e : ixN xs.length (j : Int) = some j := by
    unfold ixN
    rw [if_pos (by omega), if_pos (by omega)]; simp
  unfold atI; rw [e]; exact h
theorem atI_last {α : Type} (xs : List α) (v : α) : atI (xs ++ [v]) (-1) = some v := by
  have hl : (xs ++ [v]).length = xs.length + 1 := by simp
  have e : ixN (xs ++ [v]).length (-1) = some xs.length := by
    unfold ixN
    rw [hl, if_neg (by decide), if_pos (by omega)]
    congr 1
    omega
  unfold atI
  rw [e]
  show (xs ++ [v])[xs.length]? = some v
  simp

/-! ### what may be subscripted -/
/-- what stands as an index of a plain subscript -/
def PlainIx (b : Expr) : Prop := ∀ o i, subscripted b false o i = operate [o, i] (getItem o i)
/-- a subscript by values -/
def IxR (X : Cx) (r : R2) : Prop :=
  ∀ (value slice : Expr) (pins : List (Addr × Obj)) (s : Shared) (σ : St) (H : Hp) (x y : V) (v u : Value) (Q : VK), Inv X pins σ H s → RelV x v → RelV y u → r x y H Q →
    subscripted slice false v u = operate [v, u] (getItem v u) → wpAny (model X.prog X.w) X.A (subscriptTail value slice v u) (EP X pins σ Q) X.xe s
/-- a call of a builtin's method by values: the receiver, the arguments -/
def MtR (X : Cx) (id : String) (r : V → List V → Hp → VK → Prop) : Prop :=
  ∀ (pins : List (Addr × Obj)) (s : Shared) (σ : St) (H : Hp) (x : V) (xs : List V) (v : Value) (us : List Value) (Q : VK), Inv X pins σ H s → RelV x v → Vals xs us → r x xs H Q →
    wpAny (model X.prog X.w) X.A (call (.builtin id) (v :: us)) (EP X pins σ Q) X.xe s
section
variable {X : Cx} {a b : Expr} {ta tb : TE} {pos : Pos}
theorem IxR.or {r r' : R2} (h : IxR X r) (h' : IxR X r') : IxR X (fun x y H Q => r x y H Q ∨ r' x y H Q) := by
  intro value slice pins s σ H x y v u Q I rx ry q hs
  rcases q with q | q
  · exact h value slice pins s σ H x y v u Q I rx ry q hs
  · exact h' value slice pins s σ H x y v u Q I rx ry q hs
theorem MtR.or {id : String} {r r' : V → List V → Hp → VK → Prop} (h : MtR X id r) (h' : MtR X id r') : MtR X id (fun x xs H Q => r x xs H Q ∨ r' x xs H Q) := by
  intro pins s σ H x xs v us Q I rx rs q
  rcases q with q | q
  · exact h pins s σ H x xs v us Q I rx rs q
  · exact h' pins s σ H x xs v us Q I rx rs q
/-- a[b] -/
theorem pe_ix {r : R2} (hr : IxR X r) (ha : PE X a ta) (hb : PE X b tb) (hs : PlainIx b) : PE X (.Subscript a b pos) (tOp r ta tb) := by
  intro pins s σ H Q I h
  exact Subscript_ (binT ha hb I h fun v u s2 x y H2 I2 rx ry q => hr a b pins s2 σ H2 x y v u Q I2 rx ry q (hs _ _))

def rIxL (K : PySem.W.Frag) : R2 := fun x y H Q => ∃ p xs i v, x = .ref p ∧ y = .int i ∧ SqL K H p xs ∧ atI xs i = some v ∧ Q v H
def rIxT (K : PySem.W.Frag) : R2 := fun x y H Q => ∃ p xs i v, x = .ref p ∧ y = .int i ∧ SqT K H p xs ∧ atI xs i = some v ∧ Q v H
def rIxS : R2 := fun x y H Q => ∃ z i c, x = .str z ∧ y = .int i ∧ z.length ≤ sizeLine ∧ atI z.cps.toList i = some c ∧ Q (.str ⟨#[c]⟩) H
theorem ix_list : IxR X (rIxL X.K) := by
  intro value slice pins s σ H x y v u Q I rx ry h hs
  obtain ⟨p, xs, i, z, rfl, rfl, hq, he, q⟩ := h
  cases rx
  obtain ⟨t, rfl⟩ := ry
  obtain ⟨its, r, pl, hz⟩ := I.list hq
  obtain ⟨j, h1, h2, h3, h4, h5⟩ := atI_get he
  obtain ⟨w, ew, rw'⟩ := r.get h2
  have hl := r.length
  have hn := line63
  have fin : EP X pins σ Q w s := ⟨z, H, I, rw', q⟩
  by_cases h0 : 0 ≤ i
  · have hj : i.toNat = j := by
      rw [seqIndex_of h0 h5] at h1
      exact Option.some.inj h1
    exact item_listR pl.isList h0 (by omega) (by rw [hj]; simpa using ew) fin hs
  · have hj : (i + (its.toArray.size : Int)).toNat = j := by
      rw [seqIndex_neg (by omega) h4] at h1
      rw [List.size_toArray, ← hl]
      exact Option.some.inj h1
    exact subscriptTail_builtinR (x := w) pl.isList.typeIs slot_list_getitem.lookup
      (wpAny_getItem_list_neg (Q := fun r s' => r = w ∧ EP X pins σ Q r s') pl.isList (by omega) (by rw [List.size_toArray] <;> omega) (by omega) (by rw [hj]; simpa using ew) ⟨rfl, fin⟩) hs
theorem ix_tup : IxR X (rIxT X.K) := by
  intro value slice pins s σ H x y v u Q I rx ry h hs
  obtain ⟨p, xs, i, z, rfl, rfl, hq, he, q⟩ := h
  cases rx
  obtain ⟨t, rfl⟩ := ry
  obtain ⟨its, r, pl, hz⟩ := I.tuple hq
  obtain ⟨j, h1, h2, h3, h4, h5⟩ := atI_get he
  obtain ⟨w, ew, rw'⟩ := r.get h2
  have hl := r.length
  have hn := line63
  have fin : EP X pins σ Q w s := ⟨z, H, I, rw', q⟩
  exact subscriptTail_builtinR (x := w) pl.typeIs slot_tuple_getitem.lookup
    (getItem_tuple (j := j) (Q := fun r s' => r = w ∧ EP X pins σ Q r s') pl (by omega) (by omega) (by rw [List.size_toArray, ← hl]; exact h1) (by simpa using ew) ⟨rfl, fin⟩) hs
theorem ix_str : IxR X rIxS := by
  intro value slice pins s σ H x y v u Q I rx ry h hs
  obtain ⟨z, i, c, rfl, rfl, hz, he, q⟩ := h
  obtain ⟨t, rfl⟩ := rx
  obtain ⟨t', rfl⟩ := ry
  obtain ⟨j, h1, h2, h3, h4, h5⟩ := atI_get he
  have hl : z.cps.toList.length = z.length := by simp [Str.length]
  rw [hl] at h1 h4 h5
  have hn := line63
  exact tail_any (typeIs_str s z t) slot_str_getitem.lookup (getItem_str (c := c) (by
    have e1 : decide (i < -(2 ^ 63 : Int)) = false := decide_eq_false (by omega)
    have e2 : decide (i ≥ 2 ^ 63) = false := decide_eq_false (by omega)
    rw [e1, e2, Bool.or_false]) (by rw [h1]; simpa using h2) ⟨.str ⟨#[c]⟩, H, I.tok _, ⟨_, rfl⟩, q⟩) hs
/-- list, tuple or str -/
def rIx (K : PySem.W.Frag) : R2 := fun x y H Q => rIxL K x y H Q ∨ rIxT K x y H Q ∨ rIxS x y H Q
theorem ix_seq : IxR X (rIx X.K) := ix_list.or (ix_tup.or ix_str)

/-! ### xs[i] = v, any sign -/
/-- the list's object behind a store -/
theorem mapSeq_set (its : List Value) (n j : Nat) (u : Value) : Obj.mapSeq (·.setIfInBounds j u) { cls := .type "list", data := .seq its.toArray n } = { cls := .type "list", data := .seq (its.set j u).toArray n } := by
  simp [Obj.mapSeq]
theorem Inv.lst {pins : List (Addr × Obj)} {σ : St} {H : Hp} {s : Shared} {p : Addr} {xs : List V} (I : Inv X pins σ H s) (h : H p = some (.lst xs)) :
    ∃ (its : List Value) (n : Nat), Vals xs its ∧ s.heap.get? p = some { cls := .type "list", data := .seq its.toArray n } ∧ xs.length ≤ sizeLine := by
  obtain ⟨z, its, n, r, e⟩ := I.hok p _ h
  exact ⟨its, n, r, e, z⟩
/-- the list at p is written by an update of its object -/
theorem Inv.lstUpd {pins : List (Addr × Obj)} {σ : St} {H : Hp} {s : Shared} {p : Addr} {xs ys : List V} {its its' : List Value} {n n' : Nat} {f : Obj → Obj} (I : Inv X pins σ H s) (h : H p = some (.lst xs))
    (ho : s.heap.get? p = some { cls := .type "list", data := .seq its.toArray n }) (hf : f { cls := .type "list", data := .seq its.toArray n } = { cls := .type "list", data := .seq its'.toArray n' }) (r : Vals ys its') (hz : ys.length ≤ sizeLine) (t' : Nat) (ht : 0 < t' := by first | exact Nat.succ_pos _ | assumption | exact Inv.tk ‹_› | omega) :
    Inv X pins σ (upd H p (.lst ys)) { s with heap := s.heap.update p f, toks := t' } := by
  have e : (s.heap.update p f).get? p = some { cls := .type "list", data := .seq its'.toArray n' } := by
    rw [Heap.get?_update_self f ho (by rw [hf] <;> rfl), hf]
  refine I.write (x := p) (e := p) (by rw [h]; trivial) (.inl rfl) (fun b u hb q => (Heap.get?_update_other _ _ (Ne.symm hb)).trans q) ⟨_, e⟩ ?_
  exact ⟨hz, its', n', r, e⟩
def rSetL : V → V → V → Hp → (Hp → Prop) → Prop := fun o i v H Q => ∃ p xs k j, o = .ref p ∧ i = .int k ∧ H p = some (.lst xs) ∧ ixN xs.length k = some j ∧ Q (upd H p (.lst (xs.set j v)))
theorem set_list : PSet X rSetL := by
  intro pins s σ H o i v ov iv u Q I ro ri rv h
  obtain ⟨p, xs, k, j, rfl, rfl, hp, hj, q⟩ := h
  cases ro
  obtain ⟨t, rfl⟩ := ri
  obtain ⟨its, n, r, ho, hz⟩ := I.lst hp
  obtain ⟨h1, h2, h3, h4⟩ := ixN_seq hj
  have hl := r.length
  have hn := line63
  have I' : Inv X pins σ (upd H p (.lst (xs.set j v))) { s with heap := s.heap.update p (Obj.mapSeq (·.setIfInBounds j u)) } :=
    I.lstUpd hp ho (mapSeq_set its n j u) (r.set rv j) (by rw [List.length_set]; exact hz) s.toks
  by_cases h0 : 0 ≤ k
  · have hk : k.toNat = j := by
      rw [seqIndex_of h0 h4] at h1
      exact Option.some.inj h1
    exact PySem.W.ki_setAt ho h0 (by omega) (by rw [List.size_toArray, ← hl]; exact h4) (by rw [hk]; exact ⟨_, I', q⟩)
  · have hk : (k + (its.toArray.size : Int)).toNat = j := by
      rw [seqIndex_neg (by omega) h3] at h1
      rw [List.size_toArray, ← hl]
      exact Option.some.inj h1
    exact PySem.W.ki_setBack ho (by omega) (by rw [List.size_toArray, ← hl]; exact h3) (by omega) (by rw [hk]; exact ⟨_, I', q⟩)

/-! ### slices -/
theorem slice_bounds (lo hi : Option Int) (n : Nat) : (sliceBounds lo hi none n).1 = ((HT.sIx n 0 lo : Nat) : Int) ∧ (sliceBounds lo hi none n).2.1 = ((HT.sIx n n hi : Nat) : Int) ∧ (sliceBounds lo hi none n).2.2 = 1 := by
  refine ⟨?_, ?_, rfl⟩
  · cases lo with
    | none => simp [sliceBounds, HT.sIx]
    | some i =>
      simp only [sliceBounds, HT.sIx, Option.getD_none, show (1 : Int) > 0 by decide, if_true]
      by_cases h : i < 0
      · simp only [h, if_true] <;> omega
      · simp only [h, if_false] <;> omega
  · cases hi with
    | none => simp [sliceBounds, HT.sIx]
    | some i =>
      simp only [sliceBounds, HT.sIx, Option.getD_none, show (1 : Int) > 0 by decide, if_true]
      by_cases h : i < 0
      · simp only [h, if_true] <;> omega
      · simp only [h, if_false] <;> omega
theorem slicePick_cut (its : List Value) (lo hi : Option Int) : slicePick its.toArray lo hi none = ((its.drop (HT.sIx its.length 0 lo)).take (HT.sIx its.length its.length hi - HT.sIx its.length 0 lo)).toArray := by
  obtain ⟨h1, h2, h3⟩ := slice_bounds lo hi its.toArray.size
  unfold slicePick
  rw [h1, h2, h3]
  simp only [sliceRange_one, pick_run, List.size_toArray] <;> rfl
/-- xs[lo:hi] of a list: a new list -/
def rSlL (K : PySem.W.Frag) : V → Option Int → Option Int → Hp → VK → Prop := fun x lo hi H Q => ∃ a xs, x = .ref a ∧ SqL K H a xs ∧ ∀ p, H p = none → Q (.ref p) (upd H p (.lst (cutV xs lo hi)))
theorem sl_list : SlR X (rSlL X.K) := by
  intro pins s σ H x v vl vu lo hi sl Q I rx hs pl pu h
  obtain ⟨a, xs, rfl, hx, q⟩ := h
  cases rx
  obtain ⟨its, r, ht, hz⟩ := I.list hx
  have hlen := r.length
  refine ⟨"list", _, slot_list_getitem.lookup, ht.isList.typeIs, ?_⟩
  refine wpAny_getItem_list_slice ht.isList hs pl pu .none (by simp) ?_ (by rw [List.size_toArray] <;> omega)
  rw [slicePick_cut, ← hlen]
  refine ⟨.ref s.heap.objs.size, _, I.laid (t' := s.toks) (o := .lst (cutV xs lo hi)) (fun b ob q => Heap.get?_push_of_some _ q) (Nat.le_refl _) ?_, rfl, q _ (I.hok.fresh (Nat.le_refl _))⟩
  exact ⟨Nat.le_trans (cutV_length xs lo hi) hz, _, 0, (r.drop (HT.sIx xs.length 0 lo)).take (HT.sIx xs.length xs.length hi - HT.sIx xs.length 0 lo), Heap.get?_push_size _ rfl⟩

/-! ### in, not in: flat items -/
def flatV : V → Bool
  | .non => true
  | .bl _ => true
  | .int _ => true
  | .str _ => true
  | _ => false
/-- == of flat values -/
def eqV : V → V → Bool
  | .non, .non => true
  | .bl a, .bl b => a == b
  | .bl a, .int b => (if a then 1 else 0) == b
  | .int a, .bl b => a == (if b then 1 else 0)
  | .int a, .int b => a == b
  | .str a, .str b => a == b
  | _, _ => false
theorem eqAt_V {A : Around} {s : Shared} {y x : V} {u v : Value} (ry : RelV y u) (rx : RelV x v) (fy : flatV y = true) (fx : flatV x = true) : SeqAt.EqAt A s u v (eqV y x) := by
  cases y with
  | non =>
    cases ry
    cases x with
    | non => cases rx; exact SeqAt.EqAt.same _
    | bl b => cases rx; exact SeqAt.EqAt.none_bool b
    | int b => obtain ⟨t, rfl⟩ := rx; exact SeqAt.EqAt.none_int b t
    | str b => obtain ⟨t, rfl⟩ := rx; exact SeqAt.EqAt.none_str b t
    | _ => exact absurd (show false = true from fx) Bool.false_ne_true
  | bl a =>
    cases ry
    cases x with
    | non => cases rx; exact SeqAt.EqAt.bool_none a
    | bl b => cases rx; exact SeqAt.EqAt.bool_bool a b
    | int b => obtain ⟨t, rfl⟩ := rx; exact SeqAt.EqAt.bool_int a b t
    | str b => obtain ⟨t, rfl⟩ := rx; exact SeqAt.EqAt.bool_str a b t
    | _ => exact absurd (show false = true from fx) Bool.false_ne_true
  | int a =>
    obtain ⟨t', rfl⟩ := ry
    cases x with
    | non => cases rx; exact SeqAt.EqAt.int_none a t'
    | bl b => cases rx; exact SeqAt.EqAt.int_bool a t' b
    | int b => obtain ⟨t, rfl⟩ := rx; exact SeqAt.EqAt.int_int a t' b t
    | str b => obtain ⟨t, rfl⟩ := rx; exact SeqAt.EqAt.int_str a t' b t
    | _ => exact absurd (show false = true from fx) Bool.false_ne_true
  | str a =>
    obtain ⟨t', rfl⟩ := ry
    cases x with
    | non => cases rx; exact SeqAt.EqAt.str_none a t'
    | bl b => cases rx; exact SeqAt.EqAt.str_bool a t' b
    | int b => obtain ⟨t, rfl⟩ := rx; exact SeqAt.EqAt.str_int a t' b t
    | str b => obtain ⟨t, rfl⟩ := rx; exact SeqAt.EqAt.str_str a t' b t
    | _ => exact absurd (show false = true from fx) Bool.false_ne_true
  | _ => exact absurd (show false = true from fy) Bool.false_ne_true
/-- the items' answers, read off the values (a value's own answer does not lean on its token) -/
def eqU (x : V) (u : Value) : Bool := match u with
  | .none => eqV .non x
  | .bool b => eqV (.bl b) x
  | .int i _ => eqV (.int i) x
  | .str z _ => eqV (.str z) x
  | _ => false
theorem eqU_of {x y : V} {u : Value} (r : RelV y u) (f : flatV y = true) : eqU x u = eqV y x := by
  cases y with
  | non => cases r; rfl
  | bl b => cases r; rfl
  | int i => obtain ⟨t, rfl⟩ := r; rfl
  | str z => obtain ⟨t, rfl⟩ := r; rfl
  | _ => exact absurd (show false = true from f) Bool.false_ne_true
theorem any_eqU {x : V} : ∀ {xs : List V} {us : List Value}, Vals xs us → xs.all flatV = true → us.any (eqU x) = xs.any fun y => eqV y x
  | _, _, .nil, _ => rfl
  | y :: xs, u :: us, .cons r t, f => by
    rw [List.all_cons, Bool.and_eq_true] at f
    rw [List.any_cons, List.any_cons, eqU_of r f.1, any_eqU t f.2]
theorem mem_eqAt {A : Around} {s : Shared} {x : V} {v : Value} (rx : RelV x v) (fx : flatV x = true) : ∀ {xs : List V} {us : List Value}, Vals xs us → xs.all flatV = true → ∀ u ∈ us, SeqAt.EqAt A s u v (eqU x u)
  | _, _, .nil, _ => fun u hu => by cases hu
  | y :: xs, u :: us, .cons r t, f => fun u' hu => by
    rw [List.all_cons, Bool.and_eq_true] at f
    rcases List.mem_cons.mp hu with rfl | hu
    · rw [eqU_of r f.1]; exact eqAt_V r rx f.1 fx
    · exact mem_eqAt rx fx t f.2 u' hu
def inV (x : V) (xs : List V) : Bool := xs.any fun y => eqV y x
/-- x in a list or tuple of flat items -/
def rIn (K : PySem.W.Frag) (neg : Bool) : R2 := fun x y H Q => ∃ p xs, y = .ref p ∧ (SqL K H p xs ∨ SqT K H p xs) ∧ flatV x = true ∧ xs.all flatV = true ∧ Q (.bl (if neg then !inV x xs else inV x xs)) H
theorem op_in_seq : OpR X (compareOp .In) (rIn X.K false) := by
  intro pins s σ H x y v u Q I rx ry h
  obtain ⟨p, xs, rfl, hq, fx, fs, q⟩ := h
  cases ry
  rcases hq with hq | hq
  · obtain ⟨its, r, pl, hz⟩ := I.list hq
    refine SeqAt.in_listAt (eqU x) pl.isList (fun w hw => mem_eqAt rx fx r fs w (by simpa using hw)) ⟨.bl _, H, I, rfl, ?_⟩
    rw [show its.toArray.any (eqU x) = its.any (eqU x) by simp, any_eqU r fs]
    exact q
  · obtain ⟨its, r, pl, hz⟩ := I.tuple hq
    refine SeqAt.in_tupleAt (eqU x) pl (fun w hw => mem_eqAt rx fx r fs w (by simpa using hw)) ⟨.bl _, H, I, rfl, ?_⟩
    rw [show its.toArray.any (eqU x) = its.any (eqU x) by simp, any_eqU r fs]
    exact q
theorem op_notIn_seq : OpR X (compareOp .NotIn) (rIn X.K true) := by
  intro pins s σ H x y v u Q I rx ry h
  obtain ⟨p, xs, rfl, hq, fx, fs, q⟩ := h
  cases ry
  rcases hq with hq | hq
  · obtain ⟨its, r, pl, hz⟩ := I.list hq
    refine SeqAt.notIn_listAt (eqU x) pl.isList (fun w hw => mem_eqAt rx fx r fs w (by simpa using hw)) ⟨.bl _, H, I, rfl, ?_⟩
    rw [show its.toArray.any (eqU x) = its.any (eqU x) by simp, any_eqU r fs]
    exact q
  · obtain ⟨its, r, pl, hz⟩ := I.tuple hq
    refine SeqAt.notIn_tupleAt (eqU x) pl (fun w hw => mem_eqAt rx fx r fs w (by simpa using hw)) ⟨.bl _, H, I, rfl, ?_⟩
    rw [show its.toArray.any (eqU x) = its.any (eqU x) by simp, any_eqU r fs]
    exact q
theorem op_notIn_str : OpR X (compareOp .NotIn) (fun x y H Q => ∃ i j, x = .str i ∧ y = .str j ∧ Q (.bl (!(!(Builtin.Str.occurrences j i 0 j.length 1).isEmpty))) H) := by
  intro pins s σ H x y v u Q I rx ry h
  obtain ⟨i, j, rfl, rfl, q⟩ := h
  obtain ⟨t, rfl⟩ := rx
  obtain ⟨t', rfl⟩ := ry
  exact notIn_str ⟨.bl _, H, I, rfl, q⟩

/-! ### len, list(x), tuple(x) of any list or tuple that is read -/
theorem call_len_seq : CallR X (.builtin "len") (fun xs H Q => ∃ p ys, xs = [.ref p] ∧ (SqL X.K H p ys ∨ SqT X.K H p ys) ∧ Q (.int ys.length) H) := by
  intro pins s σ H xs us Q I r h
  obtain ⟨p, ys, rfl, hq, q⟩ := h
  obtain ⟨u, rfl, rx⟩ := vals1 r
  cases rx
  have hn := line63
  rcases hq with hq | hq
  · obtain ⟨its, r', pl, hz⟩ := I.list hq
    have hlen := r'.length
    exact Calls.call_len_list pl.isList (by simp only [List.size_toArray] <;> omega) ⟨.int ys.length, H, I.tok _, ⟨s.toks + 1, by rw [List.size_toArray, hlen]⟩, q⟩
  · obtain ⟨its, r', pl, hz⟩ := I.tuple hq
    have hlen := r'.length
    exact len_tuple pl (by simp only [List.size_toArray] <;> omega) ⟨.int ys.length, H, I.tok _, ⟨s.toks + 1, by rw [List.size_toArray, hlen]⟩, q⟩
theorem call_len_str : CallR X (.builtin "len") (fun xs H Q => ∃ z, xs = [.str z] ∧ z.length ≤ sizeLine ∧ Q (.int z.length) H) := by
  intro pins s σ H xs us Q I r h
  obtain ⟨z, rfl, hz, q⟩ := h
  obtain ⟨u, rfl, t, rfl⟩ := vals1 r
  have hn := line63
  exact len_str (by omega) ⟨.int z.length, H, I.tok _, ⟨_, rfl⟩, q⟩
theorem CallR.or {f : Value} {r r' : List V → Hp → VK → Prop} (h : CallR X f r) (h' : CallR X f r') : CallR X f (fun xs H Q => r xs H Q ∨ r' xs H Q) := by
  intro pins s σ H xs us Q I rs q
  rcases q with q | q
  · exact h pins s σ H xs us Q I rs q
  · exact h' pins s σ H xs us Q I rs q
theorem call_list_of : CallR X (.type "list") (fun xs H Q => ∃ p ys, xs = [.ref p] ∧ (SqL X.K H p ys ∨ SqT X.K H p ys) ∧ ∀ l, H l = none → Q (.ref l) (upd H l (.lst ys))) := by
  intro pins s σ H xs us Q I r h
  obtain ⟨p, ys, rfl, hq, q⟩ := h
  obtain ⟨u, rfl, rx⟩ := vals1 r
  cases rx
  have fin : ∀ (its : List Value), Vals ys its → ys.length ≤ sizeLine → ∀ (h' : Heap) (c' : Nat), (∀ b o', s.heap.get? b = some o' → h'.get? b = some o') →
      h'.get? s.heap.objs.size = some { cls := .type "list", dict := none, data := .seq its.toArray c', slots := #[] } → EP X pins σ Q (.ref s.heap.objs.size) { s with heap := h' } := fun its r' hz h' c' kp e =>
    ⟨.ref s.heap.objs.size, _, I.laid (t' := s.toks) kp (Nat.le_refl _) (show ObjOk X.prog X.w _ h' _ (.lst ys) from ⟨hz, its, c', r', e⟩), rfl, q _ (I.hok.fresh (Nat.le_refl _))⟩
  rcases hq with hq | hq
  · obtain ⟨its, r', pl, hz⟩ := I.list hq
    have hlen := r'.length
    obtain ⟨o, ho, hc, n, hd⟩ := pl.isList
    exact call_list_seq p (.inl rfl) ho hc hd (fun h' c' kp e => fin its r' hz h' c' kp e) (by simp only [List.size_toArray] <;> omega)
  · obtain ⟨its, r', pl, hz⟩ := I.tuple hq
    have hlen := r'.length
    obtain ⟨o, ho, hc, n, hd⟩ := pl
    exact call_list_seq p (.inr rfl) ho hc hd (fun h' c' kp e => fin its r' hz h' c' kp e) (by simp only [List.size_toArray] <;> omega)
theorem call_tuple_of : CallR X (.type "tuple") (fun xs H Q => ∃ p ys, xs = [.ref p] ∧ ((SqL X.K H p ys ∧ ∀ l, H l = none → Q (.ref l) (upd H l (.tup ys))) ∨ (SqT X.K H p ys ∧ Q (.ref p) H))) := by
  intro pins s σ H xs us Q I r h
  obtain ⟨p, ys, rfl, h⟩ := h
  obtain ⟨u, rfl, rx⟩ := vals1 r
  cases rx
  rcases h with ⟨hq, q⟩ | ⟨hq, q⟩
  · obtain ⟨its, r', pl, hz⟩ := I.list hq
    have hlen := r'.length
    refine call_tuple_list pl.isList (fun h' kp => ?_) (by simp only [List.size_toArray] <;> omega)
    have I1 : Inv X pins σ H { s with heap := h' } := I.kept (t' := s.toks) kp
    have I2 : Inv X pins σ (upd H h'.objs.size (.tup ys)) { s with heap := h'.push { cls := .type "tuple", data := .seq its.toArray } } :=
      I1.laid (t' := s.toks) (fun b o e => Heap.get?_push_of_some _ e) (Nat.le_refl _) (show ObjOk X.prog X.w _ _ _ (.tup ys) from ⟨hz, its, r', IsTup.new _ _⟩)
    exact ⟨.ref h'.objs.size, _, I2, rfl, q _ (I1.hok.fresh (Nat.le_refl _))⟩
  · obtain ⟨its, r', pl, hz⟩ := I.tuple hq
    exact call_tuple_same pl ⟨.ref p, H, I, rfl, q⟩

/-! ### the call of a builtin's method: o.m(..) -/
/-- the value is of that builtin type -/
def tyV (K : PySem.W.Frag) (T : String) (x : V) (H : Hp) : Prop := match x with
  | .str _ => T = "str"
  | .int _ => T = "int"
  | .ref p => (T = "list" ∧ ∃ xs, SqL K H p xs) ∨ (T = "tuple" ∧ ∃ o, K.lookup p = some o ∧ o.cls = .type "tuple" ∧ o.dict = none) ∨
      (T = "dict" ∧ ((∃ kvs, H p = some (.dK kvs)) ∨ ∃ kvs, H p = some (.dT kvs))) ∨ (T = "set" ∧ ∃ S n, H p = some (.set S n))
  | _ => False
theorem tyV_is {pins : List (Addr × Obj)} {σ : St} {H : Hp} {s : Shared} {T : String} {x : V} {v : Value} (I : Inv X pins σ H s) (r : RelV x v) (ty : tyV X.K T x H) :
    s.TypeIs v T ∧ ∀ a, v = .ref a → ∃ ob, s.heap.get? a = some ob ∧ ob.dict = none := by
  cases x with
  | str z =>
    obtain ⟨t, rfl⟩ := r
    cases (show T = "str" from ty)
    exact ⟨typeIs_str s z t, fun _ e => nomatch e⟩
  | int i =>
    obtain ⟨t, rfl⟩ := r
    cases (show T = "int" from ty)
    exact ⟨typeIs_int s i t, fun _ e => nomatch e⟩
  | ref p =>
    cases r
    rcases ty with ⟨rfl, xs, hq⟩ | ⟨rfl, o, hk, hc, hd⟩ | ⟨rfl, hk⟩ | ⟨rfl, S, n, hk⟩
    · obtain ⟨its, _, pl, _⟩ := I.list hq
      refine ⟨pl.isList.typeIs, fun a e => ?_⟩
      cases e
      obtain ⟨o, n, e, c, hd, _⟩ := pl
      exact ⟨o, e, hd⟩
    · refine ⟨⟨o, I.kIn p o hk, hc⟩, fun a e => ?_⟩
      cases e
      exact ⟨o, I.kIn _ o hk, hd⟩
    · have z : ∃ o, s.heap.get? p = some o ∧ o.ExactDict := by
        rcases hk with ⟨kvs, hk⟩ | ⟨kvs, hk⟩
        · obtain ⟨_, _, _, _, o, _, _, e, ex, _⟩ := I.hok p _ hk
          exact ⟨o, e, ex⟩
        · obtain ⟨_, _, _, _, o, _, _, e, ex, _⟩ := I.hok p _ hk
          exact ⟨o, e, ex⟩
      obtain ⟨o, e, ex⟩ := z
      refine ⟨⟨o, e, ex.1⟩, fun a e2 => ?_⟩
      cases e2
      exact ⟨o, e, ex.2.1⟩
    · obtain ⟨o, _, _, _, e, ex, _⟩ := I.hok p _ hk
      refine ⟨⟨o, e, ex.1⟩, fun a e2 => ?_⟩
      cases e2
      exact ⟨o, e, ex.2.1⟩
  | _ => exact False.elim ty
def tBM0 (K : PySem.W.Frag) (T : String) (r : V → List V → Hp → VK → Prop) (to : TE) : TE := fun σ H Q => to σ H fun x H1 => tyV K T x H1 ∧ r x [] H1 Q
def tBM (K : PySem.W.Frag) (T : String) (r : V → List V → Hp → VK → Prop) (to : TE) (t : TA) : TE := fun σ H Q => to σ H fun x H1 => tyV K T x H1 ∧ t σ H1 fun xs H2 => r x xs H2 Q
variable {o e : Expr} {es : List Expr} {to : TE} {t : TA} {name : Str} {apos cpos : Pos} {T id : String} {r : V → List V → Hp → VK → Prop}
theorem pe_bm0 (pa : PlainAttrs T) (slot : Slot T name id) (hty : typeOf (.builtin id) = pure (.type "method_descriptor")) (hm : MtR X id r) (ho : PE X o to)
    (hbase : attributeBase o name X.env (eval o X.env) = eval o X.env := by rfl) (hline : (apos.endLine == cpos.line) = true := by rfl) : PE X (.Call (.Attribute o name apos) [] [] cpos) (tBM0 X.K T r to) := by
  intro pins s σ H Q I h
  refine wpAny_Call_method0_late hbase hline (thn (ho pins s σ H _ I h) fun v s1 ⟨x, H1, I1, r1, ty, q1⟩ => ?_)
  obtain ⟨h1, h2⟩ := tyV_is I1 r1 ty
  exact ⟨T, id, pa, slot, hty, h1, h2, Calls.callWith_builtin rfl (PySem.evalArgs_none (hm pins s1 σ H1 x [] v [] Q I1 r1 .nil q1))⟩
theorem pe_bm (pa : PlainAttrs T) (slot : Slot T name id) (hty : typeOf (.builtin id) = pure (.type "method_descriptor")) (hm : MtR X id r) (ho : PE X o to) (ha : PA X (e :: es) t)
    (hbase : attributeBase o name X.env (eval o X.env) = eval o X.env := by rfl)
    (hfew : ((backTo cpos (starEach (e :: es) X.env)).all (fun x => !x.1) && (backToKw cpos (keywordEach [] X.env)).all (fun x => x.1.isSome)
      && decide ((e :: es).length + ([] : List Keyword).length + (if ([] : List Keyword).isEmpty then 0 else 1) < 30)) = true := by rfl)
    (hline : (apos.endLine == cpos.line) = true := by rfl) (hs : starEach (e :: es) X.env = (false, eval e X.env) :: starEach es X.env := by rfl) (hplain : (backTo cpos (starEach es X.env)).any (·.1) = false := by rfl) :
    PE X (.Call (.Attribute o name apos) (e :: es) [] cpos) (tBM X.K T r to t) := by
  intro pins s σ H Q I h
  refine wpAny_Call_method_late hbase hfew hline rfl (thn (ho pins s σ H _ I h) fun v s1 ⟨x, H1, I1, r1, ty, q1⟩ => ?_)
  obtain ⟨h1, h2⟩ := tyV_is I1 r1 ty
  refine ⟨T, id, pa, slot, hty, h1, h2, ?_⟩
  have hA := ha cpos pins s1 σ H1 _ I1 q1
  rw [hs] at hA ⊢
  refine Calls.callWith_builtin (by show (false || (backTo cpos (starEach es X.env)).any (·.1)) = false; rw [hplain] <;> rfl) (Calls.evalArgs_plain ?_)
  exact thn hA fun us s2 ⟨vs, H2, I2, r2, q2⟩ => hm pins s2 σ H2 x vs v us Q I2 r1 r2 q2
/- xs.append(e), list.index on a module's tuple .. are MtR facts of 06m -/
end
end L2

namespace L2
open PySem PySem.Spec PyProof.Rows

def MtM (X : Cx) (id : String) (r : V → List V → Hp → VK → Prop) : Prop :=
  ∀ (pins : List (Addr × Obj)) (s : Shared) (σ : St) (H : Hp) (x : V) (xs : List V) (v : Value) (us : List Value) (Q : VK), Inv X pins σ H s → RelV x v → Vals xs us → r x xs H Q →
    wpAny (model X.prog X.w) X.A (call (.builtin id) (v :: us)) (EP X pins σ Q) X.xe s

/-! ### lists of values -/
theorem Vals.one : ∀ {x : V} {us : List Value}, Vals [x] us → ∃ u, us = [u] ∧ RelV x u
  | _, _, .cons r .nil => ⟨_, rfl, r⟩
theorem Vals.two : ∀ {x y : V} {us : List Value}, Vals [x, y] us → ∃ u v, us = [u, v] ∧ RelV x u ∧ RelV y v
  | _, _, _, .cons r (.cons q .nil) => ⟨_, _, rfl, r, q⟩
theorem Vals.zero : ∀ {us : List Value}, Vals [] us → us = []
  | _, .nil => rfl
theorem Vals.dropLast {xs : List V} {us : List Value} (h : Vals xs us) : Vals xs.dropLast us.dropLast := by
  induction h with
  | nil => exact .nil
  | cons r t ih =>
    cases t with
    | nil => exact .nil
    | cons q t' => exact .cons r ih
theorem Vals.eraseIdx : ∀ {xs : List V} {us : List Value} (i : Nat), Vals xs us → Vals (xs.eraseIdx i) (us.eraseIdx i)
  | _, _, _, .nil => .nil
  | _, _, 0, .cons _ t => t
  | _, _, i + 1, .cons r t => .cons r (Vals.eraseIdx i t)
theorem Vals.reverse {xs : List V} {us : List Value} (h : Vals xs us) : Vals xs.reverse us.reverse := by
  induction h with
  | nil => exact .nil
  | cons r t ih => rw [List.reverse_cons, List.reverse_cons]; exact Vals.append ih (.cons r .nil)
theorem Vals.rep {xs : List V} {us : List Value} (h : Vals xs us) : ∀ k : Nat, Vals (List.replicate k xs).flatten (List.replicate k us).flatten
  | 0 => .nil
  | k + 1 => by
    rw [List.replicate_succ, List.replicate_succ, List.flatten_cons, List.flatten_cons]
    exact Vals.append h (Vals.rep h k)
theorem erase_last {α : Type} (l : List α) : l.eraseIdx (l.length - 1) = l.dropLast := by
  induction l with
  | nil => rfl
  | cons a r ih =>
    cases r with
    | nil => rfl
    | cons b r =>
      have e : (a :: b :: r).length - 1 = ((b :: r).length - 1) + 1 := by
        have h1 : (a :: b :: r).length = r.length + 2 := rfl
        have h2 : (b :: r).length = r.length + 1 := rfl
        omega
      rw [e, List.eraseIdx_cons_succ, ih]
      all_goals rfl
theorem len_erase {α : Type} : ∀ (l : List α) (i : Nat), (l.eraseIdx i).length ≤ l.length
  | [], _ => Nat.le_refl _
  | _ :: _, 0 => Nat.le_succ _
  | _ :: r, i + 1 => Nat.succ_le_succ (len_erase r i)
theorem foldl_rep (its : List Value) : ∀ (k : Nat) (acc : List Value),
    List.foldl (fun x1 x2 => x1 ++ x2) acc.toArray (List.replicate k its.toArray) = (acc ++ (List.replicate k its).flatten).toArray
  | 0, acc => by simp
  | k + 1, acc => by
    have e : acc.toArray ++ its.toArray = (acc ++ its).toArray := by simp
    have e2 : (acc ++ its) ++ (List.replicate k its).flatten = acc ++ (List.replicate (k + 1) its).flatten := by
      rw [List.replicate_succ, List.flatten_cons, List.append_assoc]
    rw [← e2, ← foldl_rep its k (acc ++ its), ← e, List.replicate_succ, List.foldl_cons]

section
variable {X : Cx} {pins : List (Addr × Obj)} {σ : St} {H : Hp} {s : Shared} {l b : Addr} {xs ys zs : List V}

/-! ### the two steps: a tracked list is rewritten, a new list is laid -/
theorem Inv.lset {its its' : List Value} {n : Nat} {f : Array Value → Array Value} {t' : Nat} (I : Inv X pins σ H s) (hH : H l = some (.lst xs))
    (e : s.heap.get? l = some { cls := .type "list", data := .seq its.toArray n }) (hf : f its.toArray = its'.toArray) (hv : Vals ys its') (hz : ys.length ≤ sizeLine) (ht : 0 < t' := by first | exact Nat.succ_pos _ | assumption | exact Inv.tk ‹_› | omega) :
    Inv X pins σ (upd H l (.lst ys)) { s with heap := s.heap.update l (Obj.mapSeq f), toks := t' } := by
  have q := PySem.IsL.update e f
  rw [hf] at q
  refine I.write (x := l) (e := l) (by rw [hH]; exact trivial) (.inl rfl) (fun b' u hb hu => (Heap.get?_update_other s.heap (Obj.mapSeq f) (Ne.symm hb)).trans hu) ⟨_, q⟩ ?_
  exact ⟨hz, its', _, hv, q⟩
theorem Inv.lnew {its : List Value} {t' : Nat} (I : Inv X pins σ H s) (hv : Vals ys its) (hz : ys.length ≤ sizeLine) (ht : 0 < t' := by first | exact Nat.succ_pos _ | assumption | exact Inv.tk ‹_› | omega) :
    Inv X pins σ (upd H s.heap.objs.size (.lst ys)) { s with heap := s.heap.push { cls := .type "list", data := .seq its.toArray }, toks := t' } :=
  I.laid (fun _ _ q => Heap.get?_push_of_some _ q) (Nat.le_refl _) ⟨hz, its, 0, hv, Heap.get?_push_size _ rfl⟩
theorem Inv.fresh (I : Inv X pins σ H s) : H s.heap.objs.size = none := I.hok.fresh (Nat.le_refl _)
theorem Inv.lstM (I : Inv X pins σ H s) (hH : H l = some (.lst xs)) : xs.length ≤ sizeLine ∧ ∃ (its : List Value) (n : Nat), Vals xs its ∧ xs.length = its.length ∧ s.heap.get? l = some { cls := .type "list", data := .seq its.toArray n } := by
  obtain ⟨z, its, n, r, e⟩ := I.hok l _ hH
  exact ⟨z, its, n, r, r.length, e⟩

theorem notLongL {n : Nat} (h : n ≤ sizeLine) : Builtin.List.listTooLong n = false := by
  unfold Builtin.List.listTooLong
  exact decide_eq_false (by omega)
end

section
variable {X : Cx}

/-! ### methods -/
def rAppend : V → List V → Hp → VK → Prop := fun x vs H Q => ∃ l xs y, x = .ref l ∧ vs = [y] ∧ H l = some (.lst xs) ∧ xs.length < sizeLine ∧ Q .non (upd H l (.lst (xs ++ [y])))
theorem mt_append : MtM X "list.append" rAppend := by
  intro pins s σ H x vs v us Q I rx rv h
  obtain ⟨l, xs, y, rfl, rfl, hH, hz, q⟩ := h
  cases rx
  obtain ⟨u, rfl, ru⟩ := rv.one
  obtain ⟨z, its, n, r, hl, e⟩ := I.lstM hH
  refine call_meets F.slot_list_append ⟨_, e, rfl⟩ F.entry_list_append (F.args_list_append_2 _ _) (PySem.list_append l its.toArray n u (by rw [List.size_toArray]; omega)) ⟨e, ?_⟩
  refine ⟨.non, _, I.lset (its' := its ++ [u]) hH e (by simp) (r.append (.cons ru .nil)) ?_, rfl, q⟩
  rw [List.length_append, List.length_singleton]
  omega

def rExtend : V → List V → Hp → VK → Prop := fun x vs H Q => ∃ l b xs zs, x = .ref l ∧ vs = [.ref b] ∧ H l = some (.lst xs) ∧ H b = some (.lst zs) ∧ xs.length + zs.length ≤ sizeLine ∧ Q .non (upd H l (.lst (xs ++ zs)))
theorem mt_extend : MtM X "list.extend" rExtend := by
  intro pins s σ H x vs v us Q I rx rv h
  obtain ⟨l, b, xs, zs, rfl, rfl, hH, hB, hz, q⟩ := h
  cases rx
  obtain ⟨u, rfl, ru⟩ := rv.one
  cases ru
  obtain ⟨z, its, n, r, hl, e⟩ := I.lstM hH
  obtain ⟨z2, its2, n2, r2, hl2, e2⟩ := I.lstM hB
  have hsz : its.toArray.size + its2.toArray.size ≤ sizeLine := by rw [List.size_toArray, List.size_toArray]; omega
  have hlong : ¬ (!its.toArray.isEmpty && Builtin.List.listTooLong (its.toArray.size + its2.toArray.size)) = true := by
    rw [notLongL hsz, Bool.and_false]
    exact Bool.false_ne_true
  refine call_meets F.slot_list_extend ⟨_, e, rfl⟩ F.entry_list_extend (F.args_list_extend_2 _ _)
    (AutoSeq1.list_extend_list_list_0 l its.toArray n b its2.toArray n2 hlong (by rw [List.size_toArray]; omega) (by omega)) ⟨e, e2, ?_⟩
  refine ⟨.non, _, I.lset (its' := its ++ its2) hH e (by simp) (r.append r2) ?_, rfl, q⟩
  rw [List.length_append]
  omega

def rPop : V → List V → Hp → VK → Prop := fun x vs H Q => ∃ l xs y, x = .ref l ∧ vs = [] ∧ H l = some (.lst xs) ∧ xs[xs.length - 1]? = some y ∧ Q y (upd H l (.lst xs.dropLast))
theorem mt_pop : MtM X "list.pop" rPop := by
  intro pins s σ H x vs v us Q I rx rv h
  obtain ⟨l, xs, y, rfl, rfl, hH, hy, q⟩ := h
  cases rx
  have hus := rv.zero
  subst hus
  obtain ⟨z, its, n, r, hl, e⟩ := I.lstM hH
  obtain ⟨u, hu, ru⟩ := r.get hy
  have hy' : its.toArray[its.toArray.size - 1]? = some u := by
    show its.toArray[its.length - 1]? = some u
    rw [← Array.getElem?_toList, ← hl]
    exact hu
  refine call_meets F.slot_list_pop ⟨_, e, rfl⟩ F.entry_list_pop (F.args_list_pop_1 _) (MeetsSeq.list_pop_last l its.toArray n u hy' (by rw [List.size_toArray]; omega)) ⟨e, ?_⟩
  refine ⟨y, _, I.lset (its' := its.dropLast) hH e ?_ r.dropLast ?_, ru, q⟩
  · show its.toArray.eraseIdxIfInBounds (its.toArray.size - 1) = its.dropLast.toArray
    rw [List.size_toArray, List.eraseIdxIfInBounds_toArray, erase_last]
  · rw [List.length_dropLast]
    omega

def rPopAt : V → List V → Hp → VK → Prop := fun x vs H Q => ∃ l xs i k y, x = .ref l ∧ vs = [.int i] ∧ H l = some (.lst xs) ∧ -(2 ^ 63) ≤ i ∧ i < 2 ^ 63 ∧ seqIndex? i xs.length = some k ∧ xs[k]? = some y ∧ Q y (upd H l (.lst (xs.eraseIdx k)))
theorem mt_popAt : MtM X "list.pop" rPopAt := by
  intro pins s σ H x vs v us Q I rx rv h
  obtain ⟨l, xs, i, k, y, rfl, rfl, hH, h1, h2, hk, hy, q⟩ := h
  cases rx
  obtain ⟨u, rfl, ru⟩ := rv.one
  obtain ⟨t, rfl⟩ := ru
  obtain ⟨z, its, n, r, hl, e⟩ := I.lstM hH
  obtain ⟨w, hw, rw'⟩ := r.get hy
  refine call_meets F.slot_list_pop ⟨_, e, rfl⟩ F.entry_list_pop (F.args_list_pop_2 _ _)
    (MeetsSeq.list_pop_at l its.toArray n i t k w (fitsIndex_both h1 h2) (by rw [List.size_toArray, ← hl]; exact hk) (by rw [← Array.getElem?_toList]; exact hw) (by rw [List.size_toArray]; omega)) ⟨e, ?_⟩
  refine ⟨y, _, I.lset (its' := its.eraseIdx k) hH e ?_ (r.eraseIdx k) ?_, rw', q⟩
  · show its.toArray.eraseIdxIfInBounds k = (its.eraseIdx k).toArray
    rw [List.eraseIdxIfInBounds_toArray]
  · have := len_erase xs k
    omega

def rReverse : V → List V → Hp → VK → Prop := fun x vs H Q => ∃ l xs, x = .ref l ∧ vs = [] ∧ H l = some (.lst xs) ∧ Q .non (upd H l (.lst xs.reverse))
theorem mt_reverse : MtM X "list.reverse" rReverse := by
  intro pins s σ H x vs v us Q I rx rv h
  obtain ⟨l, xs, rfl, rfl, hH, q⟩ := h
  cases rx
  have hus := rv.zero
  subst hus
  obtain ⟨z, its, n, r, hl, e⟩ := I.lstM hH
  refine call_meets F.slot_list_reverse ⟨_, e, rfl⟩ F.entry_list_reverse (F.args_list_reverse_1 _) (AutoSeq1.list_reverse_list_0 l its.toArray n (by rw [List.size_toArray]; omega)) ⟨e, ?_⟩
  refine ⟨.non, _, I.lset (its' := its.reverse) hH e (by simp) r.reverse ?_, rfl, q⟩
  rw [List.length_reverse]
  omega

def rClear : V → List V → Hp → VK → Prop := fun x vs H Q => ∃ l xs, x = .ref l ∧ vs = [] ∧ H l = some (.lst xs) ∧ Q .non (upd H l (.lst []))
theorem mt_clear : MtM X "list.clear" rClear := by
  intro pins s σ H x vs v us Q I rx rv h
  obtain ⟨l, xs, rfl, rfl, hH, q⟩ := h
  cases rx
  have hus := rv.zero
  subst hus
  obtain ⟨z, its, n, r, hl, e⟩ := I.lstM hH
  refine call_meets F.slot_list_clear ⟨_, e, rfl⟩ F.entry_list_clear (F.args_list_clear_1 _) (AutoSeq1.list_clear_list_0 l its.toArray n (by rw [List.size_toArray]; omega)) ⟨e, ?_⟩
  exact ⟨.non, _, I.lset (its' := []) (ys := []) hH e rfl .nil (Nat.zero_le _), rfl, q⟩

/-! ### list + list, list += list, list * int -/
def rCat : R2 := fun x y H Q => ∃ l b xs zs, x = .ref l ∧ y = .ref b ∧ H l = some (.lst xs) ∧ H b = some (.lst zs) ∧ xs.length + zs.length ≤ sizeLine ∧ ∀ p, H p = none → Q (.ref p) (upd H p (.lst (xs ++ zs)))
theorem op_cat : OpR X (binaryOp .Add) rCat := by
  intro pins s σ H x y v u Q I rx ry h
  obtain ⟨l, b, xs, zs, rfl, rfl, hH, hB, hz, q⟩ := h
  cases rx
  cases ry
  obtain ⟨z, its, n, r, hl, e⟩ := I.lstM hH
  obtain ⟨z2, its2, n2, r2, hl2, e2⟩ := I.lstM hB
  refine PySem.P.add_list e e2 ?_ (by rw [List.size_toArray, List.size_toArray]; omega)
  have ea : its.toArray ++ its2.toArray = (its ++ its2).toArray := by simp
  rw [ea]
  exact ⟨.ref _, _, I.lnew (t' := s.toks) (r.append r2) (by rw [List.length_append]; omega), rfl, q _ I.fresh⟩
/-- a list times an int (a negative one is nothing) -/
def rRep : R2 := fun x y H Q => ∃ l k xs, x = .ref l ∧ y = .int k ∧ H l = some (.lst xs) ∧ -(2 ^ 63) ≤ k ∧ k < 2 ^ 63 ∧ xs.length * k.toNat ≤ sizeLine ∧
  ∀ p, H p = none → Q (.ref p) (upd H p (.lst (List.replicate k.toNat xs).flatten))
theorem len_rep {α : Type} (xs : List α) (k : Nat) : (List.replicate k xs).flatten.length = k * xs.length := by
  induction k with
  | zero => simp
  | succ k ih => rw [List.replicate_succ, List.flatten_cons, List.length_append, ih, Nat.succ_mul, Nat.add_comm]
theorem op_rep : OpR X (binaryOp .Mult) rRep := by
  intro pins s σ H x y v u Q I rx ry h
  obtain ⟨l, k, xs, rfl, rfl, hH, h1, h2, hz, q⟩ := h
  cases rx
  obtain ⟨t, rfl⟩ := ry
  obtain ⟨z, its, n, r, hl, e⟩ := I.lstM hH
  have hlen : its.toArray.size * k.toNat ≤ sizeLine := by rw [List.size_toArray, ← hl]; exact hz
  have hcap : ¬ its.toArray.size * k.toNat > (2 ^ 63 - 1) / 8 := by
    have : (sizeLine : Nat) ≤ (2 ^ 63 - 1) / 8 := by decide
    omega
  have hfit : ¬ (!Builtin.List.listFitsIndex k) = true := by
    rw [fitsIndex_both h1 h2]
    exact Bool.false_ne_true
  have hlong : ¬ Builtin.List.listTooLong (its.toArray.size * k.toNat) = true := by
    rw [notLongL hlen]
    exact Bool.false_ne_true
  have hnew : List.foldl (fun x1 x2 => x1 ++ x2) #[] (List.replicate (if its.toArray.isEmpty = true then 0 else k.toNat) its.toArray) = (List.replicate k.toNat its).flatten.toArray := by
    have f0 : ∀ m : Nat, List.foldl (fun x1 x2 => x1 ++ x2) #[] (List.replicate m its.toArray) = (List.replicate m its).flatten.toArray := fun m => by
      have := foldl_rep its m []
      rw [List.nil_append] at this
      exact this
    rw [f0]
    cases its with
    | nil => simp
    | cons a r' => rw [if_neg (by simp)]
  refine wpAny_binaryOp_repeat_ref (T := "list") (U := "int") (by decide) ⟨_, e, rfl⟩ (fun s' => typeIs_int s' k t) noFill_list_mul F.fills_int_mul F.slot_int_rmul repeat_list F.slot_int_index.lookup
    (call_meets F.slot_int_rmul (typeIs_int s k t) F.entry_int_rmul (F.args_int_rmul_2 _ _) (int___rmul___int_list k t l its.toArray n)
      ⟨e, rfl, ⟨_, e, rfl⟩, call_meets F.slot_list_mul ⟨_, e, rfl⟩ F.entry_list_mul (F.args_list_mul_2 _ _) (AutoListH.list___mul___list_int_3 l its.toArray n k t hfit hcap hlong) ⟨e, ?_⟩⟩)
  rw [hnew]
  exact ⟨.ref _, _, I.lnew (t' := s.toks) (r.rep k.toNat) (by rw [len_rep, Nat.mul_comm]; exact hz), rfl, q _ I.fresh⟩

/-! ### del xs[i] -/
theorem del_list {pins : List (Addr × Obj)} {s : Shared} {σ : St} {H : Hp} {l : Addr} {xs : List V} {i : Int} {t : Tok} {k : Nat} {Q : Unit → Shared → Prop} (I : Inv X pins σ H s) (hH : H l = some (.lst xs))
    (h1 : -(2 ^ 63) ≤ i) (h2 : i < 2 ^ 63) (hk : seqIndex? i xs.length = some k) (h : ∀ s', Inv X pins σ (upd H l (.lst (xs.eraseIdx k))) s' → Q () s') :
    wpAny (model X.prog X.w) X.A (delItem (.ref l) (.int i t)) Q X.xe s := by
  obtain ⟨z, its, n, r, hl, e⟩ := I.lstM hH
  refine PySem.P.delItem_list (k := k) e (fitsIndex_both h1 h2) (by rw [List.size_toArray, ← hl]; exact hk) (h _ ?_) (by rw [List.size_toArray]; omega)
  refine I.lset (its' := its.eraseIdx k) (t' := s.toks) hH e ?_ (r.eraseIdx k) ?_
  · show its.toArray.eraseIdxIfInBounds k = (its.eraseIdx k).toArray
    rw [List.eraseIdxIfInBounds_toArray]
  · have := len_erase xs k
    omega
end

/-! ### xs[a:b] = ys -/
section
variable {prog : Program} {w : World} {A : Around} {E : Value → Shared → Prop} {s : Shared}
theorem splice_eq (its its2 : List Value) (a c : Nat) : its.toArray.extract 0 a ++ its2.toArray ++ its.toArray.extract c its.toArray.size = (its.take a ++ its2 ++ its.drop c).toArray := by
  apply Array.toList_inj.mp
  first
    | (simp
       exact List.take_of_length_le (by simp))
    | simp [List.take_of_length_le]
    | simp
theorem bounds_run {a c n : Nat} (hac : a ≤ c) (hc : c ≤ n) : sliceBounds (some (a : Int)) (some (c : Int)) none n = ((a : Int), (c : Int), 1) := by
  simp only [sliceBounds, Option.getD_none]
  have h1 : ¬ ((a : Int) < 0) := by omega
  have h2 : ¬ ((c : Int) < 0) := by omega
  simp only [h1, h2, if_false, show (1 : Int) > 0 by decide, if_true]
  congr 1
  · omega
  · congr 1; omega
set_option maxRecDepth 100000 in
/-- list.__setitem__ with a slice of step one and another list -/
theorem setItem_slice {l b sl : Addr} {items new : Array Value} {n n2 : Nat} {vl vu : Value} {a c : Nat} {Q : Unit → Shared → Prop}
    (e : s.heap.get? l = some { cls := .type "list", data := .seq items n }) (e2 : s.heap.get? b = some { cls := .type "list", data := .seq new n2 }) (hne : l ≠ b)
    (hs : s.heap.IsSliceOf sl vl vu .none) (pl : IsPart vl (some (a : Int))) (pu : IsPart vu (some (c : Int))) (hac : a ≤ c) (hc : c ≤ items.size)
    (hsz : items.size + new.size ≤ sizeLine) (h : Q () { s with heap := s.heap.update l (Obj.mapSeq fun xs => xs.extract 0 a ++ new ++ xs.extract c xs.size) }) :
    wpAny (model prog w) A (setItem (.ref l) (.ref sl) (.ref b)) Q E s := by
  have hl : s.heap.IsList l items := PySem.IsL.isList e
  have hb : s.heap.IsList b new := PySem.IsL.isList e2
  obtain ⟨os, hos, hcs, hds⟩ := id hs
  have hTs : s.TypeIs (.ref sl) "slice" := ⟨os, hos, hcs⟩
  have hstep : ¬ ((rawPart none == rawInt 0) = true) := Bool.false_ne_true
  have hsame : Builtin.List.listSameRef (.ref l) (.ref b) = false := by
    unfold Builtin.List.listSameRef
    exact beq_eq_false_iff_ne.mpr hne
  have hmax : (max (a : Int) (c : Int)).toNat = c := by omega
  have hz' : ((fun xs : Array Value => xs.extract 0 a ++ new ++ xs.extract c xs.size) items).size ≤ sizeLine + 1 := by
    simp only [Array.size_append, Array.size_extract]
    omega
  unfold setItem
  try with_reducible refine wpAny_holding ?_
  first | refine wpAny_bind (wpAny_pure ?_) | skip
  refine wpAny_bind (wpAny_sequenceKey hl.typeIs (by decide) ?_)
  refine wpAny_bind (wpAny_callSpecial?_slot (name := Str.ofString "__setitem__") hl.typeIs slot_list_setitem
    (wpAny_call_entry slot_list_setitem hl.typeIs entry_list_setitem ?_ (args_list_setitem _ _ _)))
  show wpAny _ _ (Builtin.List.listSubscript? (.ref sl) >>= _) _ _ s
  refine wpAny_bind ?_
  unfold Builtin.List.listSubscript?
  refine wpAny_bind (wpAny_specialOf hTs slice_no_index ?_)
  simp only [Option.isNone_none, if_true]
  refine wpAny_pure ?_
  show wpAny _ _ (typeOf (.ref sl) >>= _) _ _ s
  refine wpAny_bind (wpAny_typeOf hTs ?_)
  first
    | rw [if_neg (by decide)]
    | refine PySem.W.KFB.if_not (by decide) ?_
  rw [listSliceParts_eq]
  refine wpAny_bind (wpAny_bind (wpAny_field hos hds (x := .none) rfl (wpAny_bind (wpAny_listPart .none ?_))))
  rw [if_neg hstep]
  refine wpAny_bind (wpAny_field hos hds (x := vl) rfl (wpAny_bind (wpAny_listPart pl ?_)))
  refine wpAny_bind (wpAny_field hos hds (x := vu) rfl (wpAny_bind (wpAny_listPart pu (wpAny_pure ?_))))
  first
    | simp only [hsame, Bool.false_eq_true, if_false]
    | refine PySem.W.KFB.if_not hsame ?_
    | (dsimp only
       rw [if_neg (by rw [hsame]; exact Bool.false_ne_true)])
  refine wpAny_bind (m := Builtin.List.listAllItems (.ref b) "must assign iterable to extended slice") ?_
  unfold Builtin.List.listAllItems
  refine wpAny_bind (wpAny_typeOf hb.typeIs ?_)
  first
    | refine PySem.W.KFB.if_so (by decide) ?_
    | rw [if_pos (by decide)]
    | simp only [beq_self_eq_true, Bool.true_or, if_true]
  unfold Builtin.List.listItems
  refine wpAny_bind (wpAny_seqItems e2 rfl (wpAny_pure ?_))
  refine wpAny_bind (wpAny_bind (wpAny_seqItems e rfl (wpAny_pure ?_)))
  refine wpAny_bind (wpAny_of_eq ((sliceIndices_raw (some (a : Int)) (some (c : Int)) none items.size (by simp)).trans (congrArg (pure : Int × Int × Int → Sem (Int × Int × Int)) (bounds_run hac hc))) ?_)
  show wpAny _ _ (if ((1 : Int) == 1) = true then _ else _) _ _ s
  rw [if_pos (by decide)]
  refine wpAny_bind (wpAny_rule ?_)
  first
    | simp only [notLongL hsz, Bool.false_eq_true, if_false]
    | refine PySem.W.KFB.if_not (notLongL hsz) ?_
  first | refine wpAny_bind (wpAny_pure ?_) | skip
  show wpAny _ _ (updateSeq l (fun xs => xs.extract 0 ((a : Int)).toNat ++ new ++ xs.extract (max (a : Int) (c : Int)).toNat xs.size) >>= _) _ _ s
  rw [hmax, Int.toNat_natCast]
  refine wpAny_bind (wpAny_updateSeq (hz := Nat.le_trans (Nat.le_add_right _ _) hsz) (_hz' := hz') e rfl ?_)
  refine wpAny_bind (wpAny_letGo ?_)
  first
    | exact wpAny_bind (wpAny_pure (wpAny_pure ⟨.none, rfl, wpAny_pure h⟩))
    | exact wpAny_pure ⟨.none, rfl, wpAny_pure h⟩
end

section
variable {X : Cx}
/-- xs[a:c] = ys of another list, at the value level: sl is the slice object that was just made -/
theorem set_slice {pins : List (Addr × Obj)} {s : Shared} {σ : St} {H : Hp} {l b sl : Addr} {xs ys : List V} {a c : Int} {vl vu : Value} {Q : Unit → Shared → Prop} (I : Inv X pins σ H s)
    (hH : H l = some (.lst xs)) (hB : H b = some (.lst ys)) (hne : l ≠ b) (hs : s.heap.IsSliceOf sl vl vu .none) (ra : RelV (.int a) vl) (rc : RelV (.int c) vu) (h0 : 0 ≤ a) (hac : a ≤ c) (hc : c ≤ xs.length)
    (hz : xs.length + ys.length ≤ sizeLine) (h : ∀ s', Inv X pins σ (upd H l (.lst (xs.take a.toNat ++ ys ++ xs.drop c.toNat))) s' → Q () s') :
    wpAny (model X.prog X.w) X.A (setItem (.ref l) (.ref sl) (.ref b)) Q X.xe s := by
  obtain ⟨ta, rfl⟩ := ra
  obtain ⟨tc, rfl⟩ := rc
  obtain ⟨z, its, n, r, hl, e⟩ := I.lstM hH
  obtain ⟨z2, its2, n2, r2, hl2, e2⟩ := I.lstM hB
  obtain ⟨a', rfl⟩ := Int.eq_ofNat_of_zero_le h0
  obtain ⟨c', rfl⟩ := Int.eq_ofNat_of_zero_le (Int.le_trans h0 hac)
  simp only [Int.toNat_natCast] at h
  refine setItem_slice (a := a') (c := c') e e2 hne hs (.int _ _) (.int _ _) (by omega) (by rw [List.size_toArray]; omega) (by rw [List.size_toArray, List.size_toArray]; omega) (h _ ?_)
  refine I.lset (its' := its.take a' ++ its2 ++ its.drop c') (t' := s.toks) hH e ?_ (Vals.append (Vals.append (r.take _) r2) (r.drop _)) ?_
  · exact splice_eq its its2 a' c'
  · rw [List.length_append, List.length_append, List.length_take, List.length_drop]
    omega
end
end L2

namespace L2
open PySem PySem.Spec PyProof.Rows

/-! ### lists of pairs as tables -/
section
variable {κ : Type} [DecidableEq κ]
def valV (kvs : List (κ × V)) (k : κ) : Option V := (kvs.find? fun kv => decide (kv.1 = k)).map (·.2)
/-- in its place, or at the end -/
def putK (kvs : List (κ × V)) (k : κ) (v : V) : List (κ × V) :=
  if (kvs.any fun kv => decide (kv.1 = k)) = true then kvs.map (fun kv => if kv.1 = k then (kv.1, v) else kv) else kvs ++ [(k, v)]
def dropK (kvs : List (κ × V)) (k : κ) : List (κ × V) := kvs.filter fun kv => decide (kv.1 ≠ k)

theorem valV_nil {k : κ} : valV ([] : List (κ × V)) k = none := rfl
theorem valV_pos {p : κ × V} {r : List (κ × V)} {k : κ} (e : p.1 = k) : valV (p :: r) k = some p.2 := by simp [valV, List.find?_cons, e]
theorem valV_neg {p : κ × V} {r : List (κ × V)} {k : κ} (e : ¬ p.1 = k) : valV (p :: r) k = valV r k := by simp [valV, List.find?_cons, e]
theorem valV_any (k : κ) : ∀ kvs : List (κ × V), (kvs.any fun kv => decide (kv.1 = k)) = (valV kvs k).isSome
  | [] => rfl
  | p :: r => by
    rw [List.any_cons]
    by_cases e : p.1 = k
    · simp only [valV_pos e, decide_eq_true e, Bool.true_or, Option.isSome_some]
    · rw [valV_neg e, decide_eq_false e, Bool.false_or]; exact valV_any k r
theorem valV_map (k j : κ) (y : V) : ∀ kvs : List (κ × V), valV (kvs.map fun kv => if kv.1 = k then (kv.1, y) else kv) j = (valV kvs j).map fun x => if j = k then y else x
  | [] => rfl
  | p :: r => by
    have ih := valV_map k j y r
    rw [List.map_cons]
    by_cases h : p.1 = k
    · rw [if_pos h]
      by_cases e : p.1 = j
      · rw [valV_pos (p := (p.1, y)) e, valV_pos e, Option.map_some, if_pos (e.symm.trans h)]
      · rw [valV_neg (p := (p.1, y)) e, valV_neg e, ih]
    · rw [if_neg h]
      by_cases e : p.1 = j
      · rw [valV_pos (p := p) e, valV_pos e, Option.map_some, if_neg (fun z => h (e.trans z))]
      · rw [valV_neg (p := p) e, valV_neg e, ih]
theorem valV_snoc (k j : κ) (y : V) : ∀ kvs : List (κ × V), valV kvs k = none → valV (kvs ++ [(k, y)]) j = if j = k then some y else valV kvs j
  | [], _ => by
    by_cases e : k = j
    · rw [if_pos e.symm]; exact valV_pos (p := (k, y)) e
    · rw [if_neg (fun z => e z.symm)]; exact valV_neg (p := (k, y)) e
  | p :: r, hn => by
    rw [List.cons_append]
    have hk : ¬ p.1 = k := fun z => by rw [valV_pos z] at hn; cases hn
    rw [valV_neg hk] at hn
    have ih := valV_snoc k j y r hn
    by_cases e : p.1 = j
    · rw [valV_pos e, valV_pos e, if_neg (fun z => hk (e.trans z))]
    · rw [valV_neg e, valV_neg e, ih]
theorem valV_put (kvs : List (κ × V)) (k j : κ) (y : V) : valV (putK kvs k y) j = if j = k then some y else valV kvs j := by
  unfold putK
  by_cases a : (kvs.any fun kv => decide (kv.1 = k)) = true
  · rw [if_pos a, valV_map]
    rw [valV_any] at a
    by_cases e : j = k
    · obtain ⟨x, hx⟩ := Option.isSome_iff_exists.mp a
      rw [if_pos e, e, hx, Option.map_some, if_pos rfl]
    · rw [if_neg e]
      cases valV kvs j with
      | none => rfl
      | some x => rw [Option.map_some, if_neg e]
  · rw [if_neg a]
    refine valV_snoc k j y kvs ?_
    rw [valV_any] at a
    cases q : valV kvs k with
    | none => rfl
    | some x => rw [q] at a; exact (a rfl).elim
theorem length_putK (kvs : List (κ × V)) (k : κ) (v : V) : (putK kvs k v).length ≤ kvs.length + 1 := by
  unfold putK
  split
  · rw [List.length_map]; omega
  · rw [List.length_append, List.length_cons, List.length_nil]; omega
theorem putK_new {kvs : List (κ × V)} {k : κ} (v : V) (h : valV kvs k = none) : putK kvs k v = kvs ++ [(k, v)] := by
  unfold putK
  rw [valV_any, h]
  exact if_neg (by decide)

theorem RelO.isSome_eq {o : Option V} {u : Option Value} (r : RelO o u) : o.isSome = u.isSome := by
  cases o with
  | none => cases u with
    | none => rfl
    | some _ => exact (show False from r).elim
  | some _ => cases u with
    | none => exact (show False from r).elim
    | some _ => rfl
theorem RelO.getD {o : Option V} {u : Option Value} {d : V} {d' : Value} (r : RelO o u) (rd : RelV d d') : RelV (o.getD d) (u.getD d') := by
  cases o with
  | none => cases u with
    | none => exact rd
    | some _ => exact (show False from r).elim
  | some _ => cases u with
    | none => exact (show False from r).elim
    | some _ => exact r

/-- raw tables of the same keys -/
theorem KV.val {kvs : List (κ × V)} {vs : List (κ × Value)} (r : KV kvs vs) (k : κ) : RelO (valV kvs k) (valueAt vs k) := by
  unfold KV at r
  induction r with
  | nil => exact True.intro
  | @cons p q ps qs h t ih =>
    obtain ⟨h1, h2⟩ := h
    by_cases e : p.1 = k
    · have e' : q.1 = k := h1.symm.trans e
      have b : valueAt (q :: qs) k = some q.2 := by simp [valueAt, List.find?_cons, e']
      rw [valV_pos e, b]; exact h2
    · have e' : ¬ q.1 = k := fun z => e (h1.trans z)
      have b : valueAt (q :: qs) k = valueAt qs k := by simp [valueAt, List.find?_cons, e']
      rw [valV_neg e, b]; exact ih
theorem KV.any {kvs : List (κ × V)} {vs : List (κ × Value)} (r : KV kvs vs) (k : κ) : (kvs.any fun kv => decide (kv.1 = k)) = vs.any fun kv => decide (kv.1 = k) := by
  unfold KV at r
  induction r with
  | nil => rfl
  | cons h t ih => rw [List.any_cons, List.any_cons, ih, h.1]
theorem KV.repl {kvs : List (κ × V)} {vs : List (κ × Value)} (r : KV kvs vs) (k : κ) {y : V} {u : Value} (ry : RelV y u) :
    KV (kvs.map fun kv => if kv.1 = k then (kv.1, y) else kv) (vs.map fun kv => if kv.1 = k then (kv.1, u) else kv) := by
  unfold KV at r ⊢
  induction r with
  | nil => exact .nil
  | @cons p q ps qs h t ih =>
    rw [List.map_cons, List.map_cons]
    refine .cons ?_ ih
    obtain ⟨h1, h2⟩ := h
    by_cases e : p.1 = k
    · rw [if_pos e, if_pos (h1.symm.trans e)]; exact ⟨h1, ry⟩
    · rw [if_neg e, if_neg (fun z => e (h1.trans z))]; exact ⟨h1, h2⟩
theorem KV.put {kvs : List (κ × V)} {vs : List (κ × Value)} (r : KV kvs vs) (k : κ) {y : V} {u : Value} (ry : RelV y u) : KV (putK kvs k y) (stored vs k u) := by
  unfold putK stored
  rw [r.any k]
  by_cases e : (vs.any fun kv => decide (kv.1 = k)) = true
  · rw [if_pos e, if_pos e]; exact r.repl k ry
  · rw [if_neg e, if_neg e]; exact Paired.snoc r ⟨rfl, ry⟩
theorem KV.drop {kvs : List (κ × V)} {vs : List (κ × Value)} (r : KV kvs vs) (k : κ) : KV (dropK kvs k) (without vs k) := by
  unfold KV at r ⊢
  unfold dropK without
  induction r with
  | nil => exact .nil
  | @cons p q ps qs h t ih =>
    obtain ⟨h1, h2⟩ := h
    rw [List.filter_cons, List.filter_cons]
    by_cases e : p.1 = k
    · have a : ¬ decide (p.1 ≠ k) = true := by simp [e]
      have b : ¬ decide (q.1 ≠ k) = true := by simp [h1.symm.trans e]
      rw [if_neg a, if_neg b]; exact ih
    · have e' : ¬ q.1 = k := fun z => e (h1.trans z)
      have a : decide (p.1 ≠ k) = true := by simp [e]
      have b : decide (q.1 ≠ k) = true := by simp [e']
      rw [if_pos a, if_pos b]; exact .cons ⟨h1, h2⟩ ih
theorem KV.keys {kvs : List (κ × V)} {vs : List (κ × Value)} (r : KV kvs vs) : kvs.map (·.1) = vs.map (·.1) := by
  unfold KV at r
  induction r with
  | nil => rfl
  | cons h t ih => rw [List.map_cons, List.map_cons, ih, h.1]
theorem KV.length {kvs : List (κ × V)} {vs : List (κ × Value)} (r : KV kvs vs) : kvs.length = vs.length := Paired.length r
theorem dropK_le (kvs : List (κ × V)) (k : κ) : (dropK kvs k).length ≤ kvs.length := List.length_filter_le _ _
end


/-! ### a tracked dict, its keys ints and texts or tuples of these -/
theorem kV_is {P : Program} {w : World} {k : Key} {u : Value} (r : RelV (kV k) u) : (mixKind P w).is k u = true := by
  cases k with
  | inl i => obtain ⟨t, e⟩ := (show ∃ t, u = Value.int i t from r); subst e; exact mixKind_int P w i t
  | inr x => obtain ⟨t, e⟩ := (show ∃ t, u = Value.str x t from r); subst e; exact mixKind_str P w x t
theorem kV_inj {a b : Key} (e : kV a = kV b) : a = b := by
  cases a with
  | inl i => cases b with
    | inl j => have e' : V.int i = V.int j := e; injection e' with e'; rw [e']
    | inr y => exact nomatch (show V.int i = V.str y from e)
  | inr x => cases b with
    | inl j => exact nomatch (show V.str x = V.int j from e)
    | inr y => have e' : V.str x = V.str y := e; injection e' with e'; rw [e']
theorem kVs_inj : ∀ {a b : List Key}, a.map kV = b.map kV → a = b
  | [], [], _ => rfl
  | [], _ :: _, e => by simp at e
  | _ :: _, [], e => by simp at e
  | x :: xs, y :: ys, e => by
    rw [List.map_cons, List.map_cons] at e
    injection e with e1 e2
    rw [kV_inj e1, kVs_inj e2]
theorem items_are {P : Program} {w : World} : ∀ {ks : List Key} {us : List Value}, Vals (ks.map kV) us → ItemsAre (mixKind P w) ks us
  | [], _, r => by rw [List.map_nil] at r; cases r; exact .nil
  | k :: ks, _, r => by
    rw [List.map_cons] at r
    cases r with
    | cons h t => exact .cons (kV_is h) (items_are t)

/-- raw entries of a dict with tuple keys -/
abbrev KT (H : Hp) : List (List Key × V) → List (List Key × Addr × Value) → Prop := Paired fun p q => p.1 = q.1 ∧ H q.2.1 = some (.tup (p.1.map kV)) ∧ RelV p.2 q.2.2
theorem KT.val {H : Hp} {kvs : List (List Key × V)} {xs : List (List Key × Addr × Value)} (r : KT H kvs xs) (k : List Key) : RelO (valV kvs k) ((atKey xs k).map (·.2)) := by
  induction r with
  | nil => exact True.intro
  | @cons p q ps qs h t ih =>
    obtain ⟨h1, _, h2⟩ := h
    by_cases e : p.1 = k
    · have e' : q.1 = k := h1.symm.trans e
      have b : atKey (q :: qs) k = some q.2 := by simp [atKey, List.find?_cons, e']
      rw [valV_pos e, b]; exact h2
    · have e' : ¬ q.1 = k := fun z => e (h1.trans z)
      have b : atKey (q :: qs) k = atKey qs k := by simp [atKey, List.find?_cons, e']
      rw [valV_neg e, b]; exact ih
theorem KT.repl {H : Hp} {kvs : List (List Key × V)} {xs : List (List Key × Addr × Value)} (r : KT H kvs xs) (k : List Key) {y : V} {u : Value} (ry : RelV y u) :
    KT H (kvs.map fun kv => if kv.1 = k then (kv.1, y) else kv) (xs.map (putAt k u)) := by
  induction r with
  | nil => exact .nil
  | @cons p q ps qs h t ih =>
    rw [List.map_cons, List.map_cons]
    refine .cons ?_ ih
    obtain ⟨h1, h2, h3⟩ := h
    unfold putAt
    by_cases e : p.1 = k
    · rw [if_pos e, if_pos (h1.symm.trans e)]; exact ⟨h1, h2, ry⟩
    · rw [if_neg e, if_neg (fun z => e (h1.trans z))]; exact ⟨h1, h2, h3⟩
theorem KT.put {H : Hp} {kvs : List (List Key × V)} {xs : List (List Key × Addr × Value)} (r : KT H kvs xs) (k : List Key) {b : Addr} {y : V} {u : Value} (hb : H b = some (.tup (k.map kV))) (ry : RelV y u) :
    KT H (putK kvs k y) (storedH xs k b u) := by
  have e : (kvs.any fun kv => decide (kv.1 = k)) = (atKey xs k).isSome := by
    rw [valV_any, (r.val k).isSome_eq, Option.isSome_map]
  unfold putK storedH
  rw [e]
  by_cases q : (atKey xs k).isSome = true
  · rw [if_pos q, if_pos q]; exact r.repl k ry
  · rw [if_neg q, if_neg q]; exact Paired.snoc r ⟨rfl, hb, ry⟩
theorem KT.keeps {H H' : Hp} {kvs : List (List Key × V)} {xs : List (List Key × Addr × Value)} (r : KT H kvs xs) (ht : ∀ b ys, H b = some (.tup ys) → H' b = some (.tup ys)) : KT H' kvs xs :=
  Paired.mapP r fun _ _ z => ⟨z.1, ht _ _ z.2.1, z.2.2⟩

section
variable {P : Program} {w : World} {H : Hp} {h : Heap} {a : Addr}
theorem rd_of {u : HO} (ok : HOk P w H h) (e : Rd H a u) : ObjOk P w H h a u := e.ok ok
theorem dk_rd {kvs : List (Key × V)} (ok : HOk P w H h) (e : Rd H a (.dK kvs)) : kvs.length ≤ sizeLine ∧ (a == sysModules) = false ∧ ∃ vs, KV kvs vs ∧ h.DictOf (mixKind P w) a vs :=
  show ObjOk P w H h a (.dK kvs) from rd_of ok e
theorem dk_of {kvs : List (Key × V)} (ok : HOk P w H h) (e : H a = some (.dK kvs)) : kvs.length ≤ sizeLine ∧ (a == sysModules) = false ∧ ∃ vs, KV kvs vs ∧ h.DictOf (mixKind P w) a vs := dk_rd ok (.inl e)
/-- a tracked tuple of ints and texts is a key -/
theorem key_of {ks : List Key} (ok : HOk P w H h) (e : H a = some (.tup (ks.map kV))) : (tupleKind (mixKind P w)).is h ks a := by
  obtain ⟨_, its, r, o, h1, h2, n, h3⟩ := (show ObjOk P w H h a (.tup (ks.map kV)) from ok a _ e)
  exact ⟨o, its.toArray, n, h1, h2, h3, by simpa using items_are r⟩
theorem dt_rd {kvs : List (List Key × V)} (ok : HOk P w H h) (e : Rd H a (.dT kvs)) : kvs.length ≤ sizeLine ∧ (a == sysModules) = false ∧
    ∃ xs, KT H kvs xs ∧ h.DictOfH (tupleKind (mixKind P w)) a xs := by
  obtain ⟨z, y, xs, r, o, es, ep, h1, h2, h3, h4, h5⟩ := (show ObjOk P w H h a (.dT kvs) from rd_of ok e)
  refine ⟨z, y, xs, r, o, es, ep, h1, h2, h3, h4, fun x hx => ?_, h5⟩
  have all : ∀ {l : List (List Key × V)} {m : List (List Key × Addr × Value)}, KT H l m → ∀ x ∈ m, (tupleKind (mixKind P w)).is h x.1 x.2.1 := by
    intro l m q
    induction q with
    | nil => intro x hx; exact nomatch hx
    | @cons p q ps qs hq t ih =>
      intro x hx
      rcases List.mem_cons.mp hx with e | hx
      · subst e
        exact key_of ok (by rw [← hq.1]; exact hq.2.1)
      · exact ih x hx
  exact all r x hx
theorem dt_of {kvs : List (List Key × V)} (ok : HOk P w H h) (e : H a = some (.dT kvs)) : kvs.length ≤ sizeLine ∧ (a == sysModules) = false ∧
    ∃ xs, KT H kvs xs ∧ h.DictOfH (tupleKind (mixKind P w)) a xs := dt_rd ok (.inl e)
end

/-- what the dict at a holds at the key y -/
def DGet (H : Hp) (a : Addr) (y : V) (r : Option V) : Prop :=
  (∃ kvs k, Rd H a (.dK kvs) ∧ y = kV k ∧ r = valV kvs k) ∨ ∃ kvs k b, Rd H a (.dT kvs) ∧ y = .ref b ∧ H b = some (.tup (k.map kV)) ∧ r = valV kvs k
/-- the heap behind a[y] = v -/
def DPut (H : Hp) (a : Addr) (y v : V) (H' : Hp) : Prop :=
  (∃ kvs k, H a = some (.dK kvs) ∧ y = kV k ∧ kvs.length < sizeLine ∧ H' = upd H a (.dK (putK kvs k v))) ∨
  ∃ kvs k b, H a = some (.dT kvs) ∧ y = .ref b ∧ H b = some (.tup (k.map kV)) ∧ kvs.length < sizeLine ∧ H' = upd H a (.dT (putK kvs k v))
theorem DGet.k {H : Hp} {a : Addr} {kvs : List (Key × V)} {k : Key} (e : H a = some (.dK kvs)) : DGet H a (kV k) (valV kvs k) := .inl ⟨kvs, k, .inl e, rfl, rfl⟩
theorem DGet.t {H : Hp} {a b : Addr} {kvs : List (List Key × V)} {k : List Key} (e : H a = some (.dT kvs)) (eb : H b = some (.tup (k.map kV))) : DGet H a (.ref b) (valV kvs k) := .inr ⟨kvs, k, b, .inl e, rfl, eb, rfl⟩
theorem DPut.k {H : Hp} {a : Addr} {kvs : List (Key × V)} {k : Key} {v : V} (e : H a = some (.dK kvs)) (hl : kvs.length < sizeLine) : DPut H a (kV k) v (upd H a (.dK (putK kvs k v))) := .inl ⟨kvs, k, e, rfl, hl, rfl⟩
theorem DPut.t {H : Hp} {a b : Addr} {kvs : List (List Key × V)} {k : List Key} {v : V} (e : H a = some (.dT kvs)) (eb : H b = some (.tup (k.map kV))) (hl : kvs.length < sizeLine) :
    DPut H a (.ref b) v (upd H a (.dT (putK kvs k v))) := .inr ⟨kvs, k, b, e, rfl, eb, hl, rfl⟩


section
variable {X : Cx} {pins : List (Addr × Obj)} {σ : St} {H : Hp} {s : Shared} {a : Addr} {y v : V} {u r : Value} {o : Option V} {A : Around} {E : Value → Shared → Prop}

theorem Inv.big (I : Inv X pins σ H s) : sysModules < s.heap.objs.size := by
  have h : mainGlobals < s.heap.objs.size := (I.mod.glob.keeps I.bk).lt
  exact Nat.lt_trans (by decide) h

/-- d[y], there -/
theorem d_getItem {Q : Value → Shared → Prop} (hu : A.units + 1 < cLine) (I : Inv X pins σ H s) (g : DGet H a y (some v)) (ry : RelV y u) (h : ∀ w' s', Inv X pins σ H s' → RelV v w' → Q w' s') :
    wpAny (model X.prog X.w) A (getItem (.ref a) u) Q E s := by
  rcases g with ⟨kvs, k, e, ey, l⟩ | ⟨kvs, k, b, e, ey, eb, l⟩
  · subst ey
    obtain ⟨z, hd, vs, rel, dd⟩ := dk_rd I.hok e
    obtain ⟨w', hw, rw'⟩ := RelO.some_of (v := v) (o := valueAt vs k) (by rw [l]; exact rel.val k)
    exact wpAny_getItem_of (kV_is ry) dd.mapOf hw (h w' _ (I.tok _) rw')
  · subst ey
    cases (show u = Value.ref b from ry)
    obtain ⟨z, hd, xs, rel, dd⟩ := dt_rd I.hok e
    obtain ⟨w', hw, rw'⟩ := RelO.some_of (v := v) (o := (atKey xs k).map (·.2)) (by rw [l]; exact rel.val k)
    obtain ⟨p, hp, hp2⟩ := Option.map_eq_some_iff.mp hw
    refine wpAny_getItem_heap (tupleKind_room_in1 hu) (key_of I.hok eb) dd hp ?_
    rw [hp2]
    exact h w' _ (I.tok _) rw'
/-- y in d -/
theorem d_in {Q : Value → Shared → Prop} (hu : A.units + 1 < cLine) (I : Inv X pins σ H s) (g : DGet H a y o) (ry : RelV y u) (h : ∀ s', Inv X pins σ H s' → Q (.bool o.isSome) s') :
    wpAny (model X.prog X.w) A (compareOp .In u (.ref a)) Q E s := by
  rcases g with ⟨kvs, k, e, ey, l⟩ | ⟨kvs, k, b, e, ey, eb, l⟩
  · subst ey
    obtain ⟨z, hd, vs, rel, dd⟩ := dk_rd I.hok e
    refine wpAny_in_of (kV_is ry) hd dd.mapOf ?_
    rw [← (rel.val k).isSome_eq, ← l]
    exact h _ (I.tok _)
  · subst ey
    cases (show u = Value.ref b from ry)
    obtain ⟨z, hd, xs, rel, dd⟩ := dt_rd I.hok e
    refine wpAny_in_heap (tupleKind_room_in1 hu) (key_of I.hok eb) hd dd ?_
    have q := (rel.val k).isSome_eq
    rw [Option.isSome_map] at q
    rw [← q, ← l]
    exact h _ (I.tok _)
theorem d_notIn {Q : Value → Shared → Prop} (hu : A.units + 1 < cLine) (I : Inv X pins σ H s) (g : DGet H a y o) (ry : RelV y u) (h : ∀ s', Inv X pins σ H s' → Q (.bool (!o.isSome)) s') :
    wpAny (model X.prog X.w) A (compareOp .NotIn u (.ref a)) Q E s := by
  rcases g with ⟨kvs, k, e, ey, l⟩ | ⟨kvs, k, b, e, ey, eb, l⟩
  · subst ey
    obtain ⟨z, hd, vs, rel, dd⟩ := dk_rd I.hok e
    refine wpAny_notIn_of (kV_is ry) hd dd.mapOf ?_
    rw [← (rel.val k).isSome_eq, ← l]
    exact h _ (I.tok _)
  · subst ey
    cases (show u = Value.ref b from ry)
    obtain ⟨z, hd, xs, rel, dd⟩ := dt_rd I.hok e
    refine wpAny_notIn_heap (tupleKind_room_in1 hu) (key_of I.hok eb) hd dd ?_
    have q := (rel.val k).isSome_eq
    rw [Option.isSome_map] at q
    rw [← q, ← l]
    exact h _ (I.tok _)
/-- a dict's object is replaced -/
theorem d_write {h' : Heap} {t' : Nat} {ob : HO} (I : Inv X pins σ H s) (mu : Mut (H a)) (hs : Heap.SameBut a s.heap h') (he : ∃ q, h'.get? a = some q) (new : ObjOk X.prog X.w (upd H a ob) h' a ob) (ht : 0 < t' := by first | exact Nat.succ_pos _ | assumption | exact Inv.tk ‹_› | omega) :
    Inv X pins σ (upd H a ob) { s with heap := h', toks := t' } :=
  I.write (x := a) (e := a) mu (.inl rfl) (fun b q hb z => (hs.2 b hb).trans z) he new
theorem dk_new {P : Program} {w : World} {H' : Hp} {h' : Heap} {kvs : List (Key × V)} {vs : List (Key × Value)} (z : kvs.length ≤ sizeLine) (hd : (a == sysModules) = false) (rel : KV kvs vs) (dd : h'.DictOf (mixKind P w) a vs) :
    ObjOk P w H' h' a (.dK kvs) := ⟨z, hd, vs, rel, dd⟩
/-- d[y] = v -/
theorem d_setItem {H' : Hp} {Q : Unit → Shared → Prop} (hu : A.units + 1 < cLine) (I : Inv X pins σ H s) (g : DPut H a y v H') (ry : RelV y u) (rv : RelV v r) (h : ∀ s', Inv X pins σ H' s' → Q () s') :
    wpAny (model X.prog X.w) A (setItem (.ref a) u r) Q E s := by
  rcases g with ⟨kvs, k, e, ey, l, eH⟩ | ⟨kvs, k, b, e, ey, eb, l, eH⟩
  · subst ey eH
    obtain ⟨z, hd, vs, rel, dd⟩ := dk_of I.hok e
    have hz : vs.length ≤ sizeLine := by rw [← rel.length]; exact z
    have hl : (putK kvs k v).length ≤ sizeLine := by have := length_putK kvs k v; omega
    refine wpAny_setItem_pairs (hsz := hz) (kV_is ry) dd fun h' dd' hs => h _ ?_
    have he : ∃ q, h'.get? a = some q := let ⟨q, _, _, hq, _⟩ := dd'; ⟨q, hq⟩
    exact d_write I (by rw [e]; exact True.intro) hs he (dk_new hl hd (rel.put k rv) dd')
  · subst ey eH
    cases (show u = Value.ref b from ry)
    obtain ⟨z, hd, xs, rel, dd⟩ := dt_of I.hok e
    have hz : xs.length ≤ sizeLine := by rw [← Paired.length rel]; exact z
    have hl : (putK kvs k v).length ≤ sizeLine := by have := length_putK kvs k v; omega
    refine wpAny_setItem_heap (hsz := hz) (tupleKind_room_in1 hu) (key_of I.hok eb) dd fun h' dd' hs => h _ ?_
    obtain ⟨q, es, ep, hq, h2, h3, h4, _, h5⟩ := dd'
    refine d_write I (by rw [e]; exact True.intro) hs ⟨q, hq⟩ ⟨hl, hd, _, (rel.put k eb rv).keeps fun c ys ec => ?_, q, es, ep, hq, h2, h3, h4, h5⟩
    rw [upd_ne (ne_of ec e (fun z => nomatch z))]
    exact ec
end

section
variable {X : Cx} {pins : List (Addr × Obj)} {σ : St} {H : Hp} {s : Shared} {a : Addr} {kvs : List (Key × V)} {k : Key} {u : Value} {A : Around} {E : Value → Shared → Prop}
/-- del d[k] -/
theorem d_delItem {Q : Unit → Shared → Prop} (I : Inv X pins σ H s) (e : H a = some (.dK kvs)) (ry : RelV (kV k) u) (l : (valV kvs k).isSome = true) (h : ∀ s', Inv X pins σ (upd H a (.dK (dropK kvs k))) s' → Q () s') :
    wpAny (model X.prog X.w) A (delItem (.ref a) u) Q E s := by
  obtain ⟨z, hd, vs, rel, dd⟩ := dk_of I.hok e
  refine wpAny_delItem_slot dd.typeIs (by decide) PySem.F.slot_dict_delitem
    (call_meetsIn PySem.F.slot_dict_delitem dd.typeIs PySem.F.entry_dict_delitem (PySem.F.args_dict_delitem_2 _ _) (meets_dict_delitem_pairs (mixKind X.prog X.w) a (kV_is ry)) ⟨vs, dd, by rw [← rel.length]; exact z, by rw [← (rel.val k).isSome_eq]; exact l, fun h' dd' hs => h _ ?_⟩)
  have he : ∃ q, h'.get? a = some q := let ⟨q, _, _, hq, _⟩ := dd'; ⟨q, hq⟩
  exact d_write I (by rw [e]; exact True.intro) hs he (dk_new (Nat.le_trans (dropK_le kvs k) z) hd (rel.drop k) dd')
/-- d.pop(k[, x]), there -/
theorem d_pop {v : V} {more : List Value} {Q : Value → Shared → Prop} (I : Inv X pins σ H s) (e : H a = some (.dK kvs)) (ry : RelV (kV k) u) (l : valV kvs k = some v) (hm : more = [] ∨ ∃ x, more = [x])
    (h : ∀ w' s', Inv X pins σ (upd H a (.dK (dropK kvs k))) s' → RelV v w' → Q w' s') : wpAny (model X.prog X.w) A (call (.builtin "dict.pop") (.ref a :: u :: more)) Q E s := by
  obtain ⟨z, hd, vs, rel, dd⟩ := dk_of I.hok e
  obtain ⟨w', hw, rw'⟩ := RelO.some_of (v := v) (o := valueAt vs k) (by rw [← l]; exact rel.val k)
  have hp : (keyPart u).isSome = true := by
    cases k with
    | inl i => obtain ⟨t, q⟩ := (show ∃ t, u = Value.int i t from ry); subst q; rfl
    | inr x => obtain ⟨t, q⟩ := (show ∃ t, u = Value.str x t from ry); subst q; rfl
  have ha : argsOk "dict.pop" ⟨.ref a :: u :: more, []⟩ := by
    rcases hm with q | ⟨x, q⟩
    · subst q; exact PySem.F.args_dict_pop_2 _ _
    · subst q; exact PySem.F.args_dict_pop_3 _ _ _
  refine call_meetsIn PySem.F.slot_dict_pop dd.typeIs PySem.F.entry_dict_pop ha (meets_dict_pop_there (mixKind X.prog X.w) a (kV_is ry) more hm hp)
    ⟨vs, w', dd, by rw [← rel.length]; exact z, hw, fun h' dd' hs => h w' _ ?_ rw'⟩
  have he : ∃ q, h'.get? a = some q := let ⟨q, _, _, hq, _⟩ := dd'; ⟨q, hq⟩
  exact d_write I (by rw [e]; exact True.intro) hs he (dk_new (Nat.le_trans (dropK_le kvs k) z) hd (rel.drop k) dd')
/-- d.pop(k, x), not there -/
theorem d_popD {r : Value} {Q : Value → Shared → Prop} (I : Inv X pins σ H s) (e : H a = some (.dK kvs)) (ry : RelV (kV k) u) (l : valV kvs k = none) (h : ∀ s', Inv X pins σ H s' → Q r s') :
    wpAny (model X.prog X.w) A (call (.builtin "dict.pop") [.ref a, u, r]) Q E s := by
  obtain ⟨z, hd, vs, rel, dd⟩ := dk_of I.hok e
  have hn : valueAt vs k = none := RelO.none_of (by rw [← l]; exact rel.val k)
  have hp : (keyPart u).isSome = true := by
    cases k with
    | inl i => obtain ⟨t, q⟩ := (show ∃ t, u = Value.int i t from ry); subst q; rfl
    | inr x => obtain ⟨t, q⟩ := (show ∃ t, u = Value.str x t from ry); subst q; rfl
  exact call_meetsIn PySem.F.slot_dict_pop dd.typeIs PySem.F.entry_dict_pop (PySem.F.args_dict_pop_3 _ _ _) (meets_dict_pop_default (mixKind X.prog X.w) a (kV_is ry) hd hp r) ⟨vs, dd, hn, h _ (I.tok _)⟩
/-- d.clear() -/
theorem d_clear {Q : Value → Shared → Prop} (I : Inv X pins σ H s) (e : H a = some (.dK kvs)) (h : ∀ s', Inv X pins σ (upd H a (.dK [])) s' → Q .none s') : wpAny (model X.prog X.w) A (call (.builtin "dict.clear") [.ref a]) Q E s := by
  obtain ⟨z, hd, vs, rel, dd⟩ := dk_of I.hok e
  refine call_meetsIn PySem.F.slot_dict_clear dd.typeIs PySem.F.entry_dict_clear (PySem.F.args_dict_clear_1 _) (meets_dict_clear (mixKind X.prog X.w) a) ⟨vs, dd, by rw [← rel.length]; exact z, fun h' dd' hs => h _ ?_⟩
  have he : ∃ q, h'.get? a = some q := let ⟨q, _, _, hq, _⟩ := dd'; ⟨q, hq⟩
  exact d_write (t' := s.toks) I (by rw [e]; exact True.intro) hs he (dk_new (Nat.zero_le _) hd .nil dd')
/-- len(d) -/
theorem d_len {Q : Value → Shared → Prop} (I : Inv X pins σ H s) (e : Rd H a (.dK kvs)) (h : ∀ t s', Inv X pins σ H s' → Q (.int kvs.length t) s') : wpAny (model X.prog X.w) A (call (.builtin "len") [.ref a]) Q E s := by
  obtain ⟨z, hd, vs, rel, dd⟩ := dk_rd I.hok e
  refine call_len_dict hd dd (by rw [← rel.length]; rw [sizeLine_eq] at z; omega) ?_
  rw [← rel.length]
  exact h _ _ (I.tok _)
/-- if d -/
theorem d_truth {Q : Bool → Shared → Prop} (I : Inv X pins σ H s) (e : Rd H a (.dK kvs)) (h : ∀ s', Inv X pins σ H s' → Q (!kvs.isEmpty) s') : wpAny (model X.prog X.w) A (truthy (.ref a)) Q E s := by
  obtain ⟨z, hd, vs, rel, dd⟩ := dk_rd I.hok e
  refine wpAny_truthy_dict hd dd (by rw [← rel.length]; rw [sizeLine_eq] at z; omega) ?_
  have q : kvs.isEmpty = vs.isEmpty := by cases rel <;> rfl
  rw [← q]
  exact h _ (I.tok _)
end


/-! ### readings and rules -/
/-- the element of a subscription, not a slice -/
def NoSl (i : Expr) : Prop := ∀ ov iv, subscripted i false ov iv = operate [ov, iv] (getItem ov iv)
theorem subD_of {prog : Program} {w : World} {A : Around} {E : Value → Shared → Prop} {s : Shared} {env : Env} {value slice : Expr} {pos : Pos} {T id : String} {Q : Value → Shared → Prop}
    (hl : typeLookup (.type T) "__getitem__" = pure (some (.builtin id))) (hs : NoSl slice)
    (h : wpAny (model prog w) A (eval value env) (fun o s₁ => wpAny (model prog w) A (eval slice env) (fun i s₂ => s₂.TypeIs o T ∧ wpAny (model prog w) A (getItem o i) Q E s₂) E s₁) E s) :
    wpAny (model prog w) A (eval (.Subscript value slice pos) env) Q E s := by
  refine Subscript_ (wpAny_mono h (fun o s₁ h₁ => wpAny_mono h₁ (fun i s₂ h₂ => ?_) fun _ _ x => x) fun _ _ x => x)
  obtain ⟨hT, h₂⟩ := h₂
  unfold subscriptTail
  refine wpAny_bind ?_
  rw [getitemInPython_of_ne hT.not_modules]
  refine wpAny_bind (wpAny_specialOf hT hl ?_)
  have fin : wpAny (model prog w) A (subscripted slice false o i) (fun r s₃ => wpAny (model prog w) A (letTemporaryGo value o r >>= fun _ => pure r) Q E s₃) E s₂ := by
    rw [hs o i]
    exact wpAny_operating (wpAny_mono h₂ (fun r s₃ h₃ => wpAny_bind (wpAny_letTemporaryGo (wpAny_pure h₃))) fun _ _ x => x)
  first
    | exact wpAny_pure (wpAny_bind fin)
    | exact wpAny_bind (wpAny_pure (wpAny_bind fin))
    | exact wpAny_bind fin

theorem dict_typeIs {X : Cx} {pins : List (Addr × Obj)} {σ : St} {H : Hp} {s : Shared} {a : Addr} {y : V} {o : Option V} (I : Inv X pins σ H s) (g : DGet H a y o) : s.TypeIs (.ref a) "dict" := by
  rcases g with ⟨kvs, k, e, _, _⟩ | ⟨kvs, k, b, e, _, _, _⟩
  · obtain ⟨_, _, vs, _, dd⟩ := dk_rd I.hok e
    exact dd.typeIs
  · obtain ⟨_, _, xs, _, dd⟩ := dt_rd I.hok e
    exact dd.typeIs
theorem dict_noDict {X : Cx} {pins : List (Addr × Obj)} {σ : St} {H : Hp} {s : Shared} {a : Addr} {y : V} {o : Option V} (I : Inv X pins σ H s) (g : DGet H a y o) :
    ∀ b, Value.ref a = .ref b → ∃ ob, s.heap.get? b = some ob ∧ ob.dict = none := fun b q => by
  cases q
  rcases g with ⟨kvs, k, e, _, _⟩ | ⟨kvs, k, b, e, _, _, _⟩
  · obtain ⟨_, _, vs, _, ob, _, _, h1, h2, _⟩ := dk_rd I.hok e
    exact ⟨ob, h1, h2.2.1⟩
  · obtain ⟨_, _, xs, _, ob, _, _, h1, h2, _⟩ := dt_rd I.hok e
    exact ⟨ob, h1, h2.2.1⟩

/-- d[y] -/
def tDGet (td ty : TE) : TE := fun σ H Q => td σ H fun x H1 => ty σ H1 fun y H2 => ∃ a v, x = .ref a ∧ DGet H2 a y (some v) ∧ Q v H2
/-- y in d, y not in d -/
def tDIn (ty td : TE) : TE := fun σ H Q => ty σ H fun y H1 => td σ H1 fun x H2 => ∃ a o, x = .ref a ∧ DGet H2 a y o ∧ Q (.bl o.isSome) H2
def tDNotIn (ty td : TE) : TE := fun σ H Q => ty σ H fun y H1 => td σ H1 fun x H2 => ∃ a o, x = .ref a ∧ DGet H2 a y o ∧ Q (.bl (!o.isSome)) H2
/-- d[y] = v -/
def sDPut (td ty tv : TE) : TS := fun D σ H => tv σ H fun v H1 => td σ H1 fun x H2 => ty σ H2 fun y H3 => ∃ a H4, x = .ref a ∧ DPut H3 a y v H4 ∧ D.nx σ H4
/-- d[y] op= v -/
def sDAug (td ty tv : TE) (rd : V → V → Hp → VK → Prop) : TS := fun D σ H => td σ H fun x H1 => ty σ H1 fun y H2 => ∃ a v, x = .ref a ∧ DGet H2 a y (some v) ∧
  tv σ H2 fun y2 H3 => rd v y2 H3 fun z H4 => ∃ H5, DPut H4 a y z H5 ∧ D.nx σ H5
/-- del d[y] -/
def sDDel (td ty : TE) : TS := fun D σ H => td σ H fun x H1 => ty σ H1 fun y H2 => ∃ a kvs k, x = .ref a ∧ H2 a = some (.dK kvs) ∧ y = kV k ∧ (valV kvs k).isSome = true ∧ D.nx σ (upd H2 a (.dK (dropK kvs k)))

section
variable {X : Cx} {o i e value : Expr} {pos pos' tpos : Pos} {td ty tv : TE}
theorem pe_dget (hu : X.A.units + 1 < cLine) (ho : PE X o td) (hi : PE X i ty) (hs : NoSl i) : PE X (.Subscript o i pos) (tDGet td ty) := by
  intro pins s σ H Q I h
  refine subD_of PySem.F.slot_dict_getitem.lookup hs (thn (ho pins s σ H _ I h) fun u s1 ⟨x, H1, I1, rx, q1⟩ => thn (hi pins s1 σ H1 _ I1 q1) fun iv s2 ⟨y, H2, I2, ry, a, v, ex, g, q2⟩ => ?_)
  subst ex
  obtain rfl : u = Value.ref a := rx
  exact ⟨dict_typeIs I2 g, d_getItem hu I2 g ry fun w' s3 I3 rw' => ⟨v, H2, I3, rw', q2⟩⟩
theorem pc_din (hu : X.A.units + 1 < cLine) (hi : PE X i ty) (ho : PE X o td) : PC X .In i o (tDIn ty td) := by
  intro pins s σ H Q I h
  refine thn (hi pins s σ H _ I h) fun iv s1 ⟨y, H1, I1, ry, q1⟩ => thn (ho pins s1 σ H1 _ I1 q1) fun u s2 ⟨x, H2, I2, rx, a, ov, ex, g, q2⟩ => ?_
  subst ex
  obtain rfl : u = Value.ref a := rx
  exact d_in hu I2 g ry fun s3 I3 => ⟨.bl ov.isSome, H2, I3, rfl, q2⟩
theorem pc_dnotin (hu : X.A.units + 1 < cLine) (hi : PE X i ty) (ho : PE X o td) : PC X .NotIn i o (tDNotIn ty td) := by
  intro pins s σ H Q I h
  refine thn (hi pins s σ H _ I h) fun iv s1 ⟨y, H1, I1, ry, q1⟩ => thn (ho pins s1 σ H1 _ I1 q1) fun u s2 ⟨x, H2, I2, rx, a, ov, ex, g, q2⟩ => ?_
  subst ex
  obtain rfl : u = Value.ref a := rx
  exact d_notIn hu I2 g ry fun s3 I3 => ⟨.bl (!ov.isSome), H2, I3, rfl, q2⟩
theorem ps_dput (hu : X.A.units + 1 < cLine) (ho : PE X o td) (hi : PE X i ty) (hv : PE X value tv) (hs : swapsWith value (some (.Subscript o i pos')) pos.line X.env = pure false) :
    PS X (.Assign [.Subscript o i pos'] value pos) (sDPut td ty tv) := by
  intro pins s σ H D I h
  refine wpAny_Assign_Subscript (thn (hv pins s σ H _ I h) fun r s1 ⟨v, H1, I1, rv, q1⟩ => thn (ho pins s1 σ H1 _ I1 q1) fun u s2 ⟨x, H2, I2, rx, q2⟩ => thn (hi pins s2 σ H2 _ I2 q2) fun iv s3 ⟨y, H3, I3, ry, a, H4, ex, g, q3⟩ => ?_) hs
  subst ex
  obtain rfl : u = Value.ref a := rx
  exact d_setItem hu I3 g ry rv fun s4 I4 => ⟨σ, H4, I4, q3⟩
theorem ps_daug {op : Operator} {rd : V → V → Hp → VK → Prop} (hu : X.A.units + 1 < cLine) (ho : PE X o td) (hi : PE X i ty) (hv : PE X value tv) (hop : InOp X op rd)
    (ha : ∀ ov iv new, augStore i ov iv new = (do holding [new, ov, iv] (setItem ov iv new); release [new, ov, iv] []; pure .next)) : PS X (.AugAssign (.Subscript o i tpos) op value pos) (sDAug td ty tv rd) := by
  intro pins s σ H D I h
  refine wpAny_AugAssign_SubscriptAny (thn (ho pins s σ H _ I h) fun u s1 ⟨x, H1, I1, rx, q1⟩ => thn (hi pins s1 σ H1 _ I1 q1) fun iv s2 ⟨y, H2, I2, ry, a, v, ex, g, q2⟩ => ?_) ha
  subst ex
  obtain rfl : u = Value.ref a := rx
  refine d_getItem hu I2 g ry fun w' s3 I3 rw' => thn (hv pins s3 σ H2 _ I3 q2) fun w2 s4 ⟨y2, H3, I4, ry2, q3⟩ => thn (hop pins s4 σ H3 v y2 w' w2 _ I4 rw' ry2 q3) fun w3 s5 ⟨z, H4, I5, rz, H5, g5, q4⟩ => ?_
  exact d_setItem hu I5 g5 ry rz fun s6 I6 => ⟨σ, H5, I6, q4⟩
theorem ps_ddel (ho : PE X o td) (hi : PE X i ty) : PS X (.Delete [.Subscript o i tpos] pos) (sDDel td ty) := by
  intro pins s σ H D I h
  refine wpAny_Delete (wpAny_deleteEach_cons (wpAny_delete_Subscript (thn (ho pins s σ H _ I h) fun u s1 ⟨x, H1, I1, rx, q1⟩ => thn (hi pins s1 σ H1 _ I1 q1) fun iv s2 ⟨y, H2, I2, ry, a, kvs, k, ex, e, ey, l, q2⟩ => ?_)))
  subst ex ey
  obtain rfl : u = Value.ref a := rx
  exact d_delItem I2 e ry l fun s3 I3 => wpAny_deleteEach_nil ⟨σ, _, I3, q2⟩
end


/-! ### displays -/
theorem dk_empty {P : Program} {w : World} {H : Hp} (h : Heap) (hb : sysModules < h.objs.size) : ObjOk P w H (h.push { cls := .type "dict", data := .dict #[] }) h.objs.size (.dK []) :=
  ⟨Nat.zero_le _, beq_eq_false_iff_ne.mpr (Ne.symm (Nat.ne_of_lt hb)), [], .nil, Heap.DictOf.new h⟩
theorem dt_empty {P : Program} {w : World} {H : Hp} (h : Heap) (hb : sysModules < h.objs.size) : ObjOk P w H (h.push { cls := .type "dict", data := .dict #[] }) h.objs.size (.dT []) :=
  ⟨Nat.zero_le _, beq_eq_false_iff_ne.mpr (Ne.symm (Nat.ne_of_lt hb)), [], .nil, _, #[], 0, Heap.get?_push_size _ rfl, ⟨rfl, rfl, rfl⟩, rfl, rfl, List.nodup_nil⟩
/-- {}, to be a dict of the kind that is wanted -/
def tDNewK : TE := fun _ H Q => ∀ p, H p = none → Q (.ref p) (upd H p (.dK []))
def tDNewT : TE := fun _ H Q => ∀ p, H p = none → Q (.ref p) (upd H p (.dT []))
section
variable {X : Cx} {pos : Pos}
theorem pe_dnewK : PE X (.Dict [] [] pos) tDNewK := fun pins s σ H Q I h =>
  wpAny_Dict_empty ⟨.ref s.heap.objs.size, _, I.laid (a := s.heap.objs.size) (o := .dK []) (t' := s.toks) (fun _ _ q => Heap.get?_push_of_some _ q) (Nat.le_refl _) (dk_empty s.heap I.big), rfl, h _ (I.hok.fresh (Nat.le_refl _))⟩
theorem pe_dnewT : PE X (.Dict [] [] pos) tDNewT := fun pins s σ H Q I h =>
  wpAny_Dict_empty ⟨.ref s.heap.objs.size, _, I.laid (a := s.heap.objs.size) (o := .dT []) (t' := s.toks) (fun _ _ q => Heap.get?_push_of_some _ q) (Nat.le_refl _) (dt_empty s.heap I.big), rfl, h _ (I.hok.fresh (Nat.le_refl _))⟩
end

/-- the pairs of a display, from the left -/
def tPairs : List (TE × TE) → St → Hp → (List (V × V) → Hp → Prop) → Prop
  | [], _, H, Q => Q [] H
  | (tk, tv) :: r, σ, H, Q => tk σ H fun x H1 => tv σ H1 fun y H2 => tPairs r σ H2 fun ps H3 => Q ((x, y) :: ps) H3
abbrev VV : List (V × V) → List (Value × Value) → Prop := Paired fun p q => RelV p.1 q.1 ∧ RelV p.2 q.2
def PPs (X : Cx) (pos : Pos) (keys : List (Option Expr)) (values : List Expr) (trs : List (TE × TE)) : Prop :=
  ∀ (pins : List (Addr × Obj)) (s : Shared) (σ : St) (H : Hp) (Q : List (V × V) → Hp → Prop), Inv X pins σ H s → tPairs trs σ H Q →
    wpAny (model X.prog X.w) X.A (evalPairs (pairTrees keys values X.env pos)) (fun vs s' => ∃ ps H', Inv X pins σ H' s' ∧ VV ps vs ∧ Q ps H') X.xe s
theorem pps_nil {X : Cx} {pos : Pos} : PPs X pos [] [] [] := fun pins s σ H Q I h => pairTrees_nil_walk ⟨[], H, I, .nil, h⟩
theorem pps_cons {X : Cx} {pos : Pos} {k v : Expr} {ks : List (Option Expr)} {vs : List Expr} {tk tv : TE} {trs : List (TE × TE)} (hk : PE X k tk) (hv : PE X v tv) (hr : PPs X pos ks vs trs) :
    PPs X pos (some k :: ks) (v :: vs) ((tk, tv) :: trs) := fun pins s σ H Q I h =>
  pairTrees_cons_walk (thn (hk pins s σ H _ I h) fun u s1 ⟨x, H1, I1, rx, q1⟩ => thn (hv pins s1 σ H1 _ I1 q1) fun w2 s2 ⟨y, H2, I2, ry, q2⟩ =>
    thn (hr pins s2 σ H2 _ I2 q2) fun ws s3 ⟨ps, H3, I3, rel, q3⟩ => ⟨(x, y) :: ps, H3, I3, .cons ⟨rx, ry⟩ rel, q3⟩)

def mergeK (kvs more : List (Key × V)) : List (Key × V) := more.foldl (fun acc kv => putK acc kv.1 kv.2) kvs
theorem KV.merge : ∀ {more : List (Key × V)} {rs : List (Key × Value)} {kvs : List (Key × V)} {vs : List (Key × Value)}, KV more rs → KV kvs vs → KV (mergeK kvs more) (merged vs rs) := by
  intro more rs kvs vs r
  unfold KV at r
  induction r generalizing kvs vs with
  | nil => intro q; exact q
  | @cons p q ps qs h t ih =>
    intro r0
    have e : KV (putK kvs p.1 p.2) (stored vs q.1 q.2) := by
      have := r0.put p.1 h.2
      rw [← h.1]; exact this
    exact ih e
theorem length_mergeK : ∀ (more kvs : List (Key × V)), (mergeK kvs more).length ≤ kvs.length + more.length
  | [], kvs => by show kvs.length ≤ kvs.length + 0; omega
  | p :: r, kvs => by
    have h1 := length_mergeK r (putK kvs p.1 p.2)
    have h2 := length_putK kvs p.1 p.2
    show (mergeK (putK kvs p.1 p.2) r).length ≤ _
    rw [List.length_cons]; omega
theorem carries_of {P : Program} {w : World} : ∀ {kvs : List (Key × V)} {ws : List (Value × Value)}, VV (kvs.map fun kv => (kV kv.1, kv.2)) ws → ∃ rs, Carries (mixKind P w) ws rs ∧ KV kvs rs
  | [], _, r => by rw [List.map_nil] at r; cases r; exact ⟨[], True.intro, .nil⟩
  | p :: kvs, _, r => by
    rw [List.map_cons] at r
    cases r with
    | @cons a b as bs h t =>
      obtain ⟨rs, c, q⟩ := carries_of (P := P) (w := w) t
      obtain ⟨b1, b2⟩ := b
      exact ⟨(p.1, b2) :: rs, ⟨kV_is h.1, rfl, c⟩, .cons ⟨rfl, h.2⟩ q⟩
/-- {k: v, ..} with keys ints and texts; the new dict stands empty while the pairs are made -/
def tDisp (trs : List (TE × TE)) : TE := fun σ H Q => ∀ p, H p = none → tPairs trs σ (upd H p (.dK [])) fun ps H2 => H2 p = some (.dK []) ∧ ∃ kvs : List (Key × V), ps = kvs.map (fun kv => (kV kv.1, kv.2)) ∧ kvs.length ≤ 15 ∧ Q (.ref p) (upd H2 p (.dK (mergeK [] kvs)))
theorem pe_disp {X : Cx} {pos : Pos} {keys : List (Option Expr)} {values : List Expr} {trs : List (TE × TE)} (h : PPs X pos keys values trs) (hall : keys.all (·.isSome) = true) (hl : keys.length = values.length) (h0 : keys ≠ [])
    (h15 : keys.length ≤ 15) : PE X (.Dict keys values pos) (tDisp trs) := by
  intro pins s σ H Q I q
  have hn := I.hok.fresh (Nat.le_refl s.heap.objs.size)
  have I1 := I.laid (a := s.heap.objs.size) (o := .dK []) (h' := s.heap.push { cls := .type "dict", data := .dict #[] }) (t' := s.toks) (fun _ _ q => Heap.get?_push_of_some _ q) (Nat.le_refl _) (dk_empty s.heap I.big)
  refine wpAny_Dict_walk (knd := mixKind X.prog X.w) hall hl h0 h15 (thn (h pins _ σ _ _ I1 (q _ hn)) fun ws s2 ⟨ps, H2, I2, rel, e, kvs, ep, lk, q2⟩ => ?_)
  subst ep
  obtain ⟨rs, c, rk⟩ := carries_of (P := X.prog) (w := X.w) rel
  obtain ⟨z, hd, vs0, r0, dd⟩ := dk_of I2.hok e
  cases r0
  refine ⟨rs, c, dd, fun h' dd' hs => ⟨.ref s.heap.objs.size, _, ?_, rfl, q2⟩⟩
  have hz : (mergeK [] kvs).length ≤ sizeLine := by
    have h1 := length_mergeK kvs []
    rw [List.length_nil] at h1
    rw [sizeLine_eq]; omega
  have he : ∃ q, h'.get? s.heap.objs.size = some q := let ⟨q, _, _, hq, _⟩ := dd'; ⟨q, hq⟩
  exact d_write I2 (by rw [e]; exact True.intro) hs he (dk_new hz hd (rk.merge .nil) dd') (Nat.lt_of_lt_of_le I2.tk (Nat.le_add_right _ _))


/-! ### methods -/
/-- a method call o.m(e) of a built-in, with one argument: what must be seen of the text -/
structure M1 (X : Cx) (o : Expr) (m : Str) (apos : Pos) (e : Expr) (cpos : Pos) : Prop where
  base : attributeBase o m X.env (eval o X.env) = eval o X.env
  few : ((backTo cpos (starEach [e] X.env)).all (fun x => !x.1) && (backToKw cpos (keywordEach [] X.env)).all (fun x => x.1.isSome)
    && decide (([e] : List Expr).length + ([] : List Keyword).length + (if ([] : List Keyword).isEmpty then 0 else 1) < 30)) = true
  line : (apos.endLine == cpos.line) = true
  trees : backTo cpos (starEach [e] X.env) = [(false, eval e X.env)]
structure M2 (X : Cx) (o : Expr) (m : Str) (apos : Pos) (e f : Expr) (cpos : Pos) : Prop where
  base : attributeBase o m X.env (eval o X.env) = eval o X.env
  few : ((backTo cpos (starEach [e, f] X.env)).all (fun x => !x.1) && (backToKw cpos (keywordEach [] X.env)).all (fun x => x.1.isSome)
    && decide (([e, f] : List Expr).length + ([] : List Keyword).length + (if ([] : List Keyword).isEmpty then 0 else 1) < 30)) = true
  line : (apos.endLine == cpos.line) = true
  trees : backTo cpos (starEach [e, f] X.env) = [(false, eval e X.env), (false, eval f X.env)]

/-- a is a dict, whatever its keys -/
def IsD (H : Hp) (a : Addr) : Prop := (∃ kvs, Rd H a (.dK kvs)) ∨ ∃ kvs, Rd H a (.dT kvs)
theorem isD_at {X : Cx} {pins : List (Addr × Obj)} {σ : St} {H : Hp} {s : Shared} {a : Addr} (I : Inv X pins σ H s) (d : IsD H a) :
    s.TypeIs (.ref a) "dict" ∧ (∀ b, Value.ref a = .ref b → ∃ ob, s.heap.get? b = some ob ∧ ob.dict = none) ∧ (a == sysModules) = false := by
  rcases d with ⟨kvs, e⟩ | ⟨kvs, e⟩
  · obtain ⟨_, hd, vs, _, dd⟩ := dk_rd I.hok e
    refine ⟨dd.typeIs, fun b q => ?_, hd⟩
    cases q
    obtain ⟨ob, _, _, h1, h2, _⟩ := dd
    exact ⟨ob, h1, h2.2.1⟩
  · obtain ⟨_, hd, xs, _, dd⟩ := dt_rd I.hok e
    refine ⟨dd.typeIs, fun b q => ?_, hd⟩
    cases q
    obtain ⟨ob, _, _, h1, h2, _⟩ := dd
    exact ⟨ob, h1, h2.2.1⟩

section
variable {X : Cx} {pins : List (Addr × Obj)} {σ : St} {H : Hp} {s : Shared} {a : Addr} {y d : V} {u r : Value} {o : Option V} {A : Around} {E : Value → Shared → Prop}
/-- d.get(y) -/
theorem d_get1 {Q : Value → Shared → Prop} (hu : A.units + 1 < cLine) (I : Inv X pins σ H s) (g : DGet H a y o) (ry : RelV y u) (h : ∀ w' s', Inv X pins σ H s' → RelV (o.getD .non) w' → Q w' s') :
    wpAny (model X.prog X.w) A (call (.builtin "dict.get") [.ref a, u]) Q E s := by
  rcases g with ⟨kvs, k, e, ey, l⟩ | ⟨kvs, k, b, e, ey, eb, l⟩
  · subst ey
    obtain ⟨z, hd, vs, rel, dd⟩ := dk_rd I.hok e
    refine call_meetsIn PySem.F.slot_dict_get dd.typeIs PySem.F.entry_dict_get (PySem.F.args_dict_get_2 _ _) (meets_dict_get (mixKind X.prog X.w) a (kV_is ry) hd) ⟨_, dd.mapOf, h _ _ (I.tok _) ?_⟩
    rw [l]
    exact (rel.val k).getD rfl
  · subst ey
    cases (show u = Value.ref b from ry)
    obtain ⟨z, hd, xs, rel, dd⟩ := dt_rd I.hok e
    refine call_meetsIn PySem.F.slot_dict_get dd.typeIs PySem.F.entry_dict_get (PySem.F.args_dict_get_2 _ _) (meetsH_dict_get (tupleKind (mixKind X.prog X.w)) a b hd) ⟨tupleKind_room_in1 hu, k, xs, key_of I.hok eb, dd, h _ _ (I.tok _) ?_⟩
    rw [l]
    exact (rel.val k).getD rfl
/-- d.get(y, x) -/
theorem d_get2 {Q : Value → Shared → Prop} (hu : A.units + 1 < cLine) (I : Inv X pins σ H s) (g : DGet H a y o) (ry : RelV y u) (rd : RelV d r) (h : ∀ w' s', Inv X pins σ H s' → RelV (o.getD d) w' → Q w' s') :
    wpAny (model X.prog X.w) A (call (.builtin "dict.get") [.ref a, u, r]) Q E s := by
  rcases g with ⟨kvs, k, e, ey, l⟩ | ⟨kvs, k, b, e, ey, eb, l⟩
  · subst ey
    obtain ⟨z, hd, vs, rel, dd⟩ := dk_rd I.hok e
    refine call_meetsIn PySem.F.slot_dict_get dd.typeIs PySem.F.entry_dict_get (PySem.F.args_dict_get_3 _ _ _) (meets_dict_get_default (mixKind X.prog X.w) a (kV_is ry) hd r) ⟨_, dd.mapOf, h _ _ (I.tok _) ?_⟩
    rw [l]
    exact (rel.val k).getD rd
  · subst ey
    cases (show u = Value.ref b from ry)
    obtain ⟨z, hd, xs, rel, dd⟩ := dt_rd I.hok e
    refine call_meetsIn PySem.F.slot_dict_get dd.typeIs PySem.F.entry_dict_get (PySem.F.args_dict_get_3 _ _ _) (meetsH_dict_get_default (tupleKind (mixKind X.prog X.w)) a b hd r) ⟨tupleKind_room_in1 hu, k, xs, key_of I.hok eb, dd, h _ _ (I.tok _) ?_⟩
    rw [l]
    exact (rel.val k).getD rd
end

def tDGet1 (td ty : TE) : TE := fun σ H Q => td σ H fun x H1 => ∃ a, x = .ref a ∧ IsD H1 a ∧ ty σ H1 fun y H2 => ∃ o, DGet H2 a y o ∧ Q (o.getD .non) H2
def tDGet2 (td ty tx : TE) : TE := fun σ H Q => td σ H fun x H1 => ∃ a, x = .ref a ∧ IsD H1 a ∧ ty σ H1 fun y H2 => tx σ H2 fun z H3 => ∃ o, DGet H3 a y o ∧ Q (o.getD z) H3
/-- d.pop(k): there; d.pop(k, x): there or not -/
def tDPop1 (td ty : TE) : TE := fun σ H Q => td σ H fun x H1 => ∃ a, x = .ref a ∧ IsD H1 a ∧ ty σ H1 fun y H2 => ∃ kvs k v, H2 a = some (.dK kvs) ∧ y = kV k ∧ valV kvs k = some v ∧ Q v (upd H2 a (.dK (dropK kvs k)))
def tDPop2 (td ty tx : TE) : TE := fun σ H Q => td σ H fun x H1 => ∃ a, x = .ref a ∧ IsD H1 a ∧ ty σ H1 fun y H2 => tx σ H2 fun z H3 => ∃ kvs k, H3 a = some (.dK kvs) ∧ y = kV k ∧
  (∀ v, valV kvs k = some v → Q v (upd H3 a (.dK (dropK kvs k)))) ∧ (valV kvs k = none → Q z H3)
section
variable {X : Cx} {o e f : Expr} {apos cpos : Pos} {td ty tx : TE}
theorem pe_dget1 (hu : X.A.units + 1 < cLine) (ho : PE X o td) (he : PE X e ty) (m : M1 X o "get" apos e cpos) : PE X (.Call (.Attribute o "get" apos) [e] [] cpos) (tDGet1 td ty) := by
  intro pins s σ H Q I h
  refine wpAny_Call_method m.base m.few m.line PySem.F.plainAttrs_dict PySem.F.slot_dict_get PySem.F.type_dict_get (thn (ho pins s σ H _ I h) fun u s1 ⟨x, H1, I1, rx, a, ex, d, q1⟩ => ?_)
  subst ex
  obtain rfl : u = Value.ref a := rx
  obtain ⟨t1, t2, _⟩ := isD_at I1 d
  refine ⟨t1, t2, ?_⟩
  rw [m.trees]
  refine Calls.callWith_builtin rfl (Calls.evalArgs_plain (Calls.spliced_cons (thn (he pins s1 σ H1 _ I1 q1) fun iv s2 ⟨y, H2, I2, ry, ov, g, q2⟩ => Calls.spliced_nil ?_)))
  exact d_get1 hu I2 g ry fun w' s3 I3 rw' => ⟨_, H2, I3, rw', q2⟩
theorem pe_dget2 (hu : X.A.units + 1 < cLine) (ho : PE X o td) (he : PE X e ty) (hf : PE X f tx) (m : M2 X o "get" apos e f cpos) : PE X (.Call (.Attribute o "get" apos) [e, f] [] cpos) (tDGet2 td ty tx) := by
  intro pins s σ H Q I h
  refine wpAny_Call_method m.base m.few m.line PySem.F.plainAttrs_dict PySem.F.slot_dict_get PySem.F.type_dict_get (thn (ho pins s σ H _ I h) fun u s1 ⟨x, H1, I1, rx, a, ex, d, q1⟩ => ?_)
  subst ex
  obtain rfl : u = Value.ref a := rx
  obtain ⟨t1, t2, _⟩ := isD_at I1 d
  refine ⟨t1, t2, ?_⟩
  rw [m.trees]
  refine Calls.callWith_builtin rfl (Calls.evalArgs_plain (Calls.spliced_cons (thn (he pins s1 σ H1 _ I1 q1) fun iv s2 ⟨y, H2, I2, ry, q2⟩ =>
    Calls.spliced_cons (thn (hf pins s2 σ H2 _ I2 q2) fun fv s3 ⟨z, H3, I3, rz, ov, g, q3⟩ => Calls.spliced_nil ?_))))
  exact d_get2 hu I3 g ry rz fun w' s4 I4 rw' => ⟨_, H3, I4, rw', q3⟩
theorem pe_dpop1 (ho : PE X o td) (he : PE X e ty) (m : M1 X o "pop" apos e cpos) : PE X (.Call (.Attribute o "pop" apos) [e] [] cpos) (tDPop1 td ty) := by
  intro pins s σ H Q I h
  refine wpAny_Call_method m.base m.few m.line PySem.F.plainAttrs_dict PySem.F.slot_dict_pop PySem.F.type_dict_pop (thn (ho pins s σ H _ I h) fun u s1 ⟨x, H1, I1, rx, a, ex, d, q1⟩ => ?_)
  subst ex
  obtain rfl : u = Value.ref a := rx
  obtain ⟨t1, t2, _⟩ := isD_at I1 d
  refine ⟨t1, t2, ?_⟩
  rw [m.trees]
  refine Calls.callWith_builtin rfl (Calls.evalArgs_plain (Calls.spliced_cons (thn (he pins s1 σ H1 _ I1 q1) fun iv s2 ⟨y, H2, I2, ry, kvs, k, v, ea, ey, l, q2⟩ => Calls.spliced_nil ?_)))
  subst ey
  exact d_pop I2 ea ry l (.inl rfl) fun w' s3 I3 rw' => ⟨v, _, I3, rw', q2⟩
theorem pe_dpop2 (ho : PE X o td) (he : PE X e ty) (hf : PE X f tx) (m : M2 X o "pop" apos e f cpos) : PE X (.Call (.Attribute o "pop" apos) [e, f] [] cpos) (tDPop2 td ty tx) := by
  intro pins s σ H Q I h
  refine wpAny_Call_method m.base m.few m.line PySem.F.plainAttrs_dict PySem.F.slot_dict_pop PySem.F.type_dict_pop (thn (ho pins s σ H _ I h) fun u s1 ⟨x, H1, I1, rx, a, ex, d, q1⟩ => ?_)
  subst ex
  obtain rfl : u = Value.ref a := rx
  obtain ⟨t1, t2, _⟩ := isD_at I1 d
  refine ⟨t1, t2, ?_⟩
  rw [m.trees]
  refine Calls.callWith_builtin rfl (Calls.evalArgs_plain (Calls.spliced_cons (thn (he pins s1 σ H1 _ I1 q1) fun iv s2 ⟨y, H2, I2, ry, q2⟩ =>
    Calls.spliced_cons (thn (hf pins s2 σ H2 _ I2 q2) fun fv s3 ⟨z, H3, I3, rz, kvs, k, ea, ey, q3, q4⟩ => Calls.spliced_nil ?_))))
  subst ey
  cases l : valV kvs k with
  | some v => exact d_pop I3 ea ry l (.inr ⟨fv, rfl⟩) fun w' s4 I4 rw' => ⟨v, _, I4, rw', q3 v l⟩
  | none => exact d_popD I3 ea ry l fun s4 I4 => ⟨z, H3, I4, rz, q4 l⟩
end

/-! ### dict(d): a copy -/
section
variable {X : Cx} {pins : List (Addr × Obj)} {σ : St} {H : Hp} {s : Shared} {a : Addr} {kvs : List (Key × V)} {A : Around} {E : Value → Shared → Prop}
theorem d_copyOf {Q : Value → Shared → Prop} (I : Inv X pins σ H s) (e : Rd H a (.dK kvs)) (h : ∀ p s', H p = none → Inv X pins σ (upd H p (.dK kvs)) s' → Q (.ref p) s') : wpAny (model X.prog X.w) A (call (.type "dict") [.ref a]) Q E s := by
  obtain ⟨z, hd, vs, rel, dd⟩ := dk_rd I.hok e
  refine kt_call_dict hd dd (by rw [← rel.length]; exact z) fun h' dd' hs => ?_
  refine h _ _ (I.hok.fresh (Nat.le_refl _)) (I.laid (a := s.heap.objs.size) (o := .dK kvs) (t' := s.toks) (fun b q hq => ?_) (Nat.le_refl _) (dk_new z (beq_eq_false_iff_ne.mpr (Ne.symm (Nat.ne_of_lt I.big))) rel dd'))
  exact (hs.2 b (Nat.ne_of_lt (Heap.lt_size hq))).trans (Heap.get?_push_of_some _ hq)
end


section
variable {X : Cx} {pins : List (Addr × Obj)} {σ : St} {H : Hp} {s : Shared} {a : Addr} {y : V} {u : Value} {A : Around} {E : Value → Shared → Prop}
/-- d[y], not there: a KeyError -/
theorem d_missing {Q : Value → Shared → Prop} (hu : A.units + 1 < cLine) (hh : A.handled = none) (I : Inv X pins σ H s) (g : DGet H a y none) (ry : RelV y u)
    (h : ∀ h' e t', Heap.NewExc s.heap h' e "KeyError" → E (.ref e) { s with heap := h', toks := t' }) : wpAny (model X.prog X.w) A (getItem (.ref a) u) Q E s := by
  rcases g with ⟨kvs, k, e, ey, l⟩ | ⟨kvs, k, b, e, ey, eb, l⟩
  · subst ey
    obtain ⟨z, hd, vs, rel, dd⟩ := dk_rd I.hok e
    have hn : valueAt vs k = none := RelO.none_of (by rw [l]; exact rel.val k)
    exact wpAny_getItem_missing_of (kV_is ry) hd hh dd.mapOf hn fun h' ex ne => h h' ex _ ne
  · subst ey
    cases (show u = Value.ref b from ry)
    obtain ⟨z, hd, xs, rel, dd⟩ := dt_rd I.hok e
    have hn : (atKey xs k).map (·.2) = none := RelO.none_of (by rw [l]; exact rel.val k)
    exact wpAny_getItem_missing_heap (tupleKind_room_in1 hu) (key_of I.hok eb) hd hh dd (Option.map_eq_none_iff.mp hn) fun h' ex ne => h h' ex _ ne
end
end L2


namespace Att
open PySem PySem.W PySem.Calls PyProof.Rows

/-! ### the script -/
theorem ints_of_wellAll {P : Params} {h : Heap} : ∀ (ns : List Int) (vs : List Value), WellAll P h vs (ns.map WData.int) → IntsAre vs ns := by
  intro ns
  induction ns with
  | nil =>
    intro vs w
    rw [List.map_nil] at w
    cases w
    exact .nil
  | cons n ns ih =>
    intro vs w
    rw [List.map_cons] at w
    cases w with
    | cons a b =>
      cases a
      exact .cons _ _ (ih _ b)

theorem script_of {l : OpenLaw} {n : Nat} (hn : l.most = some n) {P : Params} {h : Heap} {args : List WData} {vals : List Value}
    (hpre : l.row.toRowW.claim.pre args = true) (hwl : WellAll P h vals args) :
    ∃ a vs ns, vals = [Value.ref a] ∧ args = [WData.list (ns.map WData.int)] ∧ h.get? a = some { cls := .type "list", data := .seq vs.toArray } ∧ IntsAre vs ns ∧ ns.length ≤ n := by
  have hsh : WShape.hasAll [] args [.list .int] = true := (pre_splitW hpre).1
  have hc : l.pre.holds [] { args := args } = true := (pre_splitW hpre).2
  obtain ⟨d, r, rfl, h1, h2⟩ := hasAllW_cons hsh
  obtain rfl := hasAllW_nil h2
  obtain ⟨xs, rfl, h3⟩ := hasW_list h1
  obtain ⟨ns, rfl⟩ := items_int h3
  have hlen : ns.length ≤ n := by
    unfold OpenLaw.pre at hc
    have h4 : (WTm.not (.lt (.lit (.int (n : Int))) (.len (.arg 0)))).holds [] { args := [.list (ns.map .int)] } = true := by
      have h4 := (holds_andW hc).1
      rw [hn] at h4
      exact h4
    have h5 := condW_of h4 (w_not (w_lt w_lit (w_len_list (w_arg rfl))))
    rw [List.length_map] at h5
    refine Nat.le_of_not_lt fun q => ?_
    have q' : (n : Int) < ((ns.length : Nat) : Int) := by omega
    first
      | (rw [decide_eq_true q'] at h5; exact absurd h5 (by decide))
      | (simp at h5; omega)
  cases hwl with
  | cons w1 w2 =>
    cases w2
    cases w1 with
    | list ho hall => exact ⟨_, _, ns, rfl, rfl, ho, ints_of_wellAll ns _ hall, hlen⟩

theorem post_true (l : OpenLaw) (args : List WData) : l.row.toRowW.claim.post args (.bool true) args = true :=
  postW_of (r := l.row.toRowW) (X := (true == true))
    (show WShape.has [] (.bool true) .bool = true by first | rfl | decide | simp [WShape.has, WShape.arms, WShape.armsAll])
    (show (WTm.eq .res (.lit (.bool true))).value [] { args := args, res := some (.bool true), after := args } = some (.bool (true == true)) from w_eq_bool (w_res rfl) w_lit) rfl

/-! ### the attachment: holds_open's last premise (the goal 'hc' behind k_head) from a wpAny of the law's body -/
theorem attach {l : OpenLaw} {n : Nat} {q : Program} {loose : List Str} {XP : (Str → Option Value) → Heap → Prop} {YP : World → Heap → Prop} {d : DefRec} {x : Str}
    (hn : l.most = some n) (hdf : d.params.defaults = [])
    (hbind : ∀ pm cd doc v : Value, bindArgs (docDef d.name d.params d.body d.scope pm cd doc) ⟨[v], []⟩ = pure [(x, v)])
    (hx : d.scope.names.lookup x = some .local ∨ d.scope.names.lookup x = some .cell)
    (hk : d.scope.kind = .function) (hco : d.scope.isCoroutine = false) (hgen : d.scope.isGenerator = false)
    (body : ∀ (w : World) (s₀ s₁ s : Shared) (mg mb : Str → Option Value) (fa : Addr) (o : Obj) (pm cd doc : Value) (a : Addr) (vs : List Value) (ns : List Int),
      Ground q loose [] XP w s₀ mg mb s₁.heap → YP w s₁.heap →
      s₁.heap.get? fa = some o → o.data = .func (docDef d.name d.params d.body d.scope pm cd doc) → s₁.heap.CodeRec cd d.name → mg d.name = some (.ref fa) →
      s₁.heap.get? a = some { cls := .type "list", data := .seq vs.toArray } → IntsAre vs ns → ns.length ≤ n →
      s.gens = #[] → s.os = s₁.os →
      Fr s₁.heap s₁.heap.objs.size s.heap (bindL (envOfC d.name d.scope s₁.heap.objs.size fa cd).kindOf [(x, .ref a)] fun _ => none) →
      Cl s₁.heap.objs.size (cellsFrom (s₁.heap.objs.size + 1) d.scope.names []) s.heap (bindC (envOfC d.name d.scope s₁.heap.objs.size fa cd).kindOf [(x, .ref a)] fun _ => none) →
      wpAny (model l.prog w) (callerA.deeper (envOfC d.name d.scope s₁.heap.objs.size fa cd)) (execs d.body (envOfC d.name d.scope s₁.heap.objs.size fa cd))
        (fun f s' => f = .ret (.bool true) ∧ OldK s₁.heap s'.heap ∧ s'.os = s₁.os ∧ AllBare s'.gens) (fun _ _ => False) s) :
    WalkO q loose XP YP l.row.toRowW d [] (fun f vs => PySem.call f vs) := by
  intro w s₀ s₁ mg mb G Y fa o pm cd doc dV kV ho hd hcd hD hmg hg args vals as hpre hlay hrd hwl hlo
  obtain rfl : dV = .none := Dflts.none hD hdf
  obtain rfl : kV = .none := Dflts.noKw hD
  obtain ⟨a, vs, ns, rfl, rfl, hobj, hints, hlen⟩ := script_of hn hpre hwl
  refine enter_call ?_
  refine call_cells_ret (o := o) (by rw [depth_caller]; decide) ho (fd_plain hd) G.T.nolimit hcd (hbind pm cd doc (.ref a)) (fun y hy => ?_) (fun h₁ tk F X => ?_) hco hgen hk
  · obtain rfl : y = (x, Value.ref a) := List.mem_singleton.mp hy
    rcases hx with e | e
    · exact .inl e
    · exact .inr ⟨e, cellsFrom_some _ _ _ (.inl e)⟩
  · refine wpAny_mono (body w s₀ s₁ { s₁ with heap := h₁, toks := tk } mg mb fa o pm cd doc a vs ns G Y ho (fd_plain hd) hcd hmg hobj hints hlen hg rfl F X) (fun f s' hq => ?_) (fun _ _ hq => hq)
    obtain ⟨rfl, h2, h3, h4⟩ := hq
    exact ⟨.inl ⟨.bool true, .bool true, [], rfl, fun _ => rfl, .bool true, post_true l _, fun _ => ⟨List.Pairwise.nil, fun _ hm => (nomatch hm)⟩⟩, h2, h3, h4⟩

/-- the same from a codeAny of the CALL (for a layer whose function contracts speak of calls) -/
theorem attach_call {l : OpenLaw} {n : Nat} {q : Program} {loose : List Str} {XP : (Str → Option Value) → Heap → Prop} {YP : World → Heap → Prop} {d : DefRec}
    (hn : l.most = some n) (hdf : d.params.defaults = [])
    (call : ∀ (w : World) (s₀ s₁ : Shared) (mg mb : Str → Option Value) (fa : Addr) (o : Obj) (pm cd doc : Value) (a : Addr) (vs : List Value) (ns : List Int),
      Ground q loose [] XP w s₀ mg mb s₁.heap → YP w s₁.heap →
      s₁.heap.get? fa = some o → o.data = .func (docDef d.name d.params d.body d.scope pm cd doc) → s₁.heap.CodeRec cd d.name → mg d.name = some (.ref fa) →
      s₁.heap.get? a = some { cls := .type "list", data := .seq vs.toArray } → IntsAre vs ns → ns.length ≤ n → s₁.gens = #[] →
      codeAny (model l.prog w) callerA (.call (.ref fa) ⟨[.ref a], []⟩) (fun r s' => r = .ok (.ret (.bool true)) ∧ OldK s₁.heap s'.heap ∧ s'.os = s₁.os ∧ AllBare s'.gens) s₁) :
    WalkO q loose XP YP l.row.toRowW d [] (fun f vs => PySem.call f vs) := by
  intro w s₀ s₁ mg mb G Y fa o pm cd doc dV kV ho hd hcd hD hmg hg args vals as hpre hlay hrd hwl hlo
  obtain rfl : dV = .none := Dflts.none hD hdf
  obtain rfl : kV = .none := Dflts.noKw hD
  obtain ⟨a, vs, ns, rfl, rfl, hobj, hints, hlen⟩ := script_of hn hpre hwl
  refine enter_call (codeAny_mono (call w s₀ s₁ mg mb fa o pm cd doc a vs ns G Y ho (fd_plain hd) hcd hmg hobj hints hlen hg) fun r s' hq => ?_)
  obtain ⟨rfl, h2, h3, h4⟩ := hq
  exact ⟨.inl ⟨.bool true, .bool true, [], rfl, fun _ => rfl, .bool true, post_true l _, fun _ => ⟨List.Pairwise.nil, fun _ hm => (nomatch hm)⟩⟩, h2, h3, h4⟩

/-- the same where the top left finished generators (o_head chose holds_openN): nothing may have changed at all and no generator may be left -/
theorem attachN {l : OpenLaw} {n : Nat} {q : Program} {loose : List Str} {XP : (Str → Option Value) → Heap → Prop} {YP : World → Heap → Prop} {d : DefRec} {x : Str}
    (hn : l.most = some n) (hdf : d.params.defaults = [])
    (hbind : ∀ pm cd doc v : Value, bindArgs (docDef d.name d.params d.body d.scope pm cd doc) ⟨[v], []⟩ = pure [(x, v)])
    (hx : d.scope.names.lookup x = some .local ∨ d.scope.names.lookup x = some .cell)
    (hk : d.scope.kind = .function) (hco : d.scope.isCoroutine = false) (hgen : d.scope.isGenerator = false)
    (body : ∀ (w : World) (s₀ s₁ s : Shared) (mg mb : Str → Option Value) (fa : Addr) (o : Obj) (pm cd doc : Value) (a : Addr) (vs : List Value) (ns : List Int),
      Ground q loose [] XP w s₀ mg mb s₁.heap → YP w s₁.heap →
      s₁.heap.get? fa = some o → o.data = .func (docDef d.name d.params d.body d.scope pm cd doc) → s₁.heap.CodeRec cd d.name → mg d.name = some (.ref fa) →
      s₁.heap.get? a = some { cls := .type "list", data := .seq vs.toArray } → IntsAre vs ns → ns.length ≤ n →
      s.gens = #[] → s.os = s₁.os →
      Fr s₁.heap s₁.heap.objs.size s.heap (bindL (envOfC d.name d.scope s₁.heap.objs.size fa cd).kindOf [(x, .ref a)] fun _ => none) →
      Cl s₁.heap.objs.size (cellsFrom (s₁.heap.objs.size + 1) d.scope.names []) s.heap (bindC (envOfC d.name d.scope s₁.heap.objs.size fa cd).kindOf [(x, .ref a)] fun _ => none) →
      wpAny (model l.prog w) (callerA.deeper (envOfC d.name d.scope s₁.heap.objs.size fa cd)) (execs d.body (envOfC d.name d.scope s₁.heap.objs.size fa cd))
        (fun f s' => f = .ret (.bool true) ∧ (∀ b o, s₁.heap.get? b = some o → s'.heap.get? b = some o) ∧ s'.os = s₁.os ∧ s'.gens = #[]) (fun _ _ => False) s) :
    WalkN q loose XP YP l.row.toRowW d [] (fun f vs => PySem.call f vs) := by
  intro w s₀ s₁ mg mb G Y fa o pm cd doc dV kV ho hd hcd hD hmg hg args vals as hpre hlay hrd hwl hlo
  obtain rfl : dV = .none := Dflts.none hD hdf
  obtain rfl : kV = .none := Dflts.noKw hD
  obtain ⟨a, vs, ns, rfl, rfl, hobj, hints, hlen⟩ := script_of hn hpre hwl
  refine enter_callW ?_
  refine call_cells_ret (o := o) (by rw [depth_caller]; decide) ho (fd_plain hd) G.T.nolimit hcd (hbind pm cd doc (.ref a)) (fun y hy => ?_) (fun h₁ tk F X => ?_) hco hgen hk
  · obtain rfl : y = (x, Value.ref a) := List.mem_singleton.mp hy
    rcases hx with e | e
    · exact .inl e
    · exact .inr ⟨e, cellsFrom_some _ _ _ (.inl e)⟩
  · refine wpAny_mono (body w s₀ s₁ { s₁ with heap := h₁, toks := tk } mg mb fa o pm cd doc a vs ns G Y ho (fd_plain hd) hcd hmg hobj hints hlen hg rfl F X) (fun f s' hq => ?_) (fun _ _ hq => hq)
    obtain ⟨rfl, h2, h3, h4⟩ := hq
    exact ⟨.inl ⟨.bool true, .bool true, [], rfl, fun _ => rfl, .bool true, post_true l _, fun _ => ⟨List.Pairwise.nil, fun _ hm => (nomatch hm)⟩⟩, h2, h3, h4⟩

/-! ### rules over ANY heap (no ledger) from facts about the written part K: the library's own take a ledger (News) for what they write -/
section
variable {prog : Program} {w : World} {A : Around} {E : Value → Shared → Prop} {s : Shared} {K : Frag}

/-- a def of the module, or a method (qual 'C.m'), entered: the frame is the next address; cells behind it -/
theorem call_fn {R : Result → Shared → Prop} {name qual : Str} {params : Arguments} {body : List Stmt} {scope : Scope} {dV kV doc pm cdv ct oc : Value} {an od : Option Addr} {osl : Array (Option Value)} {f : Addr} {args : Args} {binds : List (Str × Value)}
    (X : K.In s.heap) (hlim : s.heap.NoLimit) (ho : K.lookup f = some ⟨oc, od, .func (fnOf name qual params body scope dV kV doc pm an cdv ct), osl⟩) (hcd : codeIn K cdv qual = true) (hroom : A.depth < recursionLimit)
    (hbind : BindsTo s (fnOf name qual params body scope dV kV doc pm an cdv ct) args binds)
    (hkind : (binds.all fun y => scope.names.lookup y.1 == some .local || scope.names.lookup y.1 == some .cell) = true)
    (h : ∀ s₁, InCallC s s.heap.objs.size (bindL (envOfC qual scope s.heap.objs.size f cdv).kindOf binds fun _ => none) (cellsFrom (s.heap.objs.size + 1) scope.names [])
        (bindC (envOfC qual scope s.heap.objs.size f cdv).kindOf binds fun _ => none) s₁ →
      wpAny (model prog w) (A.deeper (envOfC qual scope s.heap.objs.size f cdv)) (execs body (envOfC qual scope s.heap.objs.size f cdv))
        (fun fl s' => R (.ok (.ret (match fl with | .ret v => v | _ => .none))) s')
        (fun e s' => wpAny (model prog w) (A.deeper (envOfC qual scope s.heap.objs.size f cdv)) (leaving (envOfC qual scope s.heap.objs.size f cdv) e) (fun _ s'' => R (.error e) s'') (fun e' s'' => R (.error e') s'') s') s₁)
    (hco : scope.isCoroutine = false) (hgen : scope.isGenerator = false) (hk : scope.kind = .function) : codeAny (model prog w) A (.call (.ref f) args) R s := by
  refine codeAny_call_function hroom (X _ _ ho) rfl hco hgen rfl (codeRec_of X hcd) (hbind _ _ _ _ ?_)
  refine wpAny_newFunctionEnv_cells hk (kindsX hkind _) fun env he s₁ x => ?_
  subst he
  exact ⟨hlim.keeps x.toInCall.keep, codeAny_func (h s₁ x)⟩

/-- C(..): dict at size, instance at size + 1, then __init__ -/
theorem make_obj {R : Result → Shared → Prop} {C fI : Addr} {rest : List Value} {kw : List (Str × Value)}
    (X : K.In s.heap) (hm : makesIn K C = true) (hi : findIn K (.ref C) "__init__" = some (some (.ref fI))) (hf : isFn K (.ref fI) = true)
    (h : codeAny (model prog w) (A.under (.builtin "type.__call__" ⟨.ref C :: rest, kw⟩)) (.call (.ref fI) ⟨.ref (s.heap.objs.size + 1) :: rest, kw⟩) (InitBack (s.heap.objs.size + 1) R)
      { s with heap := (s.heap.push emptyDict).push (instObj C s.heap.objs.size) }) : codeAny (model prog w) A (.call (.ref C) ⟨rest, kw⟩) R s := by
  obtain ⟨hh, g, d, t, os⟩ := s
  exact make_core (makes_of X hm) (looks_findIn X hi) (fun self => bind_fn X self (beq_iff_eq.mp hf)) (.inl rfl) h

/-- x.name where the instance's dict holds the name and the class does not -/
theorem get_field {x C : Addr} {ox : Obj} {es : List DictEntry} {n : Nat} {name : Str} {expr : Bool} {v : Value} {Q : Value → Shared → Prop}
    (X : K.In s.heap) (I : PySem.W.InstAt s.heap x ox C (some (dictOf es n))) (hg : plainGet K C name = true) (hh : hasDictIn K C = true) (ha : findIn K (.ref C) name = some none)
    (hl : getL name es = some (some v)) (hv : handedIn v = true) (h : Q v { s with toks := s.toks + 1 }) : wpAny (model prog w) A (getAttr (.ref x) name expr) Q E s :=
  get_value X I (plainGet_of hg).1 (findObj_own hh ha rfl hl) hv h

/-- x.m(..): the method found in the class -/
theorem get_method {x C f : Addr} {ox : Obj} {es : List DictEntry} {n : Nat} {name : Str} {pl : Sem Bool} {Q : Value × List Value → Shared → Prop}
    (X : K.In s.heap) (I : PySem.W.InstAt s.heap x ox C (some (dictOf es n))) (hg : plainGet K C name = true) (hf : findIn K (.ref C) name = some (some (.ref f))) (ht : isFn K (.ref f) = true)
    (hl : getL name es = some none) (h : Q (.ref f, [.ref x]) s) : wpAny (model prog w) A (getMethod (.ref x) name pl) Q E s :=
  method_fn X I (plainGet_of hg).1 (plainGet_of hg).2 hf (beq_iff_eq.mp ht) (by show (lookIn name (dictOf es n)).map _ = _; rw [lookIn_dict, hl]; rfl) h

/-! the whole heap as the ledger: makes every rule that writes through a ledger a rule over any heap -/
def noObjs (h : Heap) : Heap := { h with objs := #[] }
theorem noObjs_get (h : Heap) (b : Addr) : (noObjs h).get? b = none := by
  cases e : (noObjs h).get? b with
  | none => rfl
  | some o => exact absurd (Heap.lt_size e) (Nat.not_lt_zero _)
def ledger (h : Heap) (L d : Addr) : List (Addr × Obj) := (List.range h.objs.size).filterMap fun a => if a = L ∨ a = d then none else (h.get? a).map fun o => (a, o)
theorem mem_ledger {h : Heap} {L d a : Addr} {o : Obj} : (a, o) ∈ ledger h L d ↔ a ≠ L ∧ a ≠ d ∧ h.get? a = some o := by
  unfold ledger
  rw [List.mem_filterMap]
  constructor
  · rintro ⟨b, _, e⟩
    split at e
    · cases e
    · rename_i hb
      obtain ⟨o', ho, e'⟩ := Option.map_eq_some_iff.mp e
      cases e'
      exact ⟨fun q => hb (.inl q), fun q => hb (.inr q), ho⟩
  · rintro ⟨n1, n2, ho⟩
    refine ⟨a, List.mem_range.mpr (Heap.lt_size ho), ?_⟩
    rw [if_neg (show ¬ (a = L ∨ a = d) from fun q => q.elim n1 n2), ho] <;> rfl
theorem news_ledger {h : Heap} {L d : Addr} {od : Obj} (hne : d ≠ L) (ho : h.get? d = some od) : News (noObjs h) L h ([] ++ (d, od) :: ledger h L d) := by
  rintro ⟨a, o⟩ hp
  rcases List.mem_cons.mp hp with e | hp
  · cases e
    exact ⟨ho, hne, noObjs_get _ _⟩
  · obtain ⟨n1, n2, e⟩ := mem_ledger.mp hp
    exact ⟨e, n1, noObjs_get _ _⟩
theorem fr_all {h : Heap} {L : Addr} {m : Str → Option Value} (n : h.Ns L m) : Fr (noObjs h) L h m :=
  ⟨n, fun b o e => (by rw [noObjs_get] at e; cases e), Nat.zero_le _⟩
/-- Upd of the head entry (for append_K, setItem_K ..) -/
theorem upd_ledger {h : Heap} {L d : Addr} {o o' : Obj} : Upd d o o' ((d, o) :: ledger h L d) ((d, o') :: ledger h L d) :=
  .head fun ⟨_, _⟩ hp => (mem_ledger.mp hp).2.1

/-- x.name = v over any heap: L is any namespace of the heap (the frame's, say): its map stays, its object is not told; all else but the dict stays -/
theorem set_field {x C dx L : Addr} {ox : Obj} {m : Str → Option Value} {es es' : List DictEntry} {n n' : Nat} {name : Str} {v : Value} {Q : Unit → Shared → Prop}
    (X : K.In s.heap) (I : PySem.W.InstAt s.heap x ox C (some (dictOf es n))) (hd : ox.dict = some dx) (hL : s.heap.Ns L m) (hne : dx ≠ L)
    (hs : findIn K (.ref C) "__setattr__" = some (some (.builtin "object.__setattr__"))) (hp : plainOver K C = true) (ht : takerIn K C name = some none) (hh : hasDictIn K C = true) (hl : (getL name es).isSome = true)
    (e : (putL name (PyData.keyHash w.params name) (.str name (s.toks + 1)) v es, putN name es n) = (es', n')) (hz : es'.length ≤ 1000)
    (h : ∀ h' : Heap, h'.Ns L m → h'.get? dx = some (dictOf es' n') → (∀ b o, b ≠ dx → b ≠ L → s.heap.get? b = some o → h'.get? b = some o) → Q () { s with heap := h', toks := s.toks + 2 }) :
    wpAny (model prog w) A (setAttr (.ref x) name v) Q E s := by
  obtain ⟨e1, e2⟩ := Prod.mk.inj e
  have hdx : s.heap.get? dx = some (dictOf es n) := by
    have := I.dict
    rw [hd] at this
    exact this
  refine set_plain X I hs (osa_dict (s := { s with toks := s.toks + 1 }) (h₀ := noObjs s.heap) (L := L) (m := m) (od := dictOf es n) (od' := dictOf es' n') (es := es') (n := n') (pre := []) (post := ledger s.heap L dx)
    (fr_all hL) (news_ledger hne hdx) X I hd hp ht hh hl (fun _ q => nomatch q) (fun ⟨_, _⟩ q => (mem_ledger.mp q).2.1) (by rw [putName_dict, e1, e2]) rfl hz fun h' F' N' => ?_)
  exact h h' F'.ns (N'.get (List.Mem.head _)) fun b o n1 n2 ho => N'.get (List.Mem.tail _ (mem_ledger.mpr ⟨n2, n1, ho⟩))
end
end Att

namespace L2
open PySem PySem.Spec PyProof.Rows

theorem vals_ints : ∀ {vs : List Value} {ns : List Int}, IntsAre vs ns → Vals (ns.map V.int) vs
  | _, _, .nil => .nil
  | _, _, .cons n t h => .cons ⟨t, rfl⟩ (vals_ints h)

/-- nothing is tracked but the script, known to the object (or it is an object of the module) -/
def Only (H : Hp) : Prop := ∀ b, H b = none ∨ ∃ o xs, H b = some (.frz o (.lst xs))

/-- THE HEAD: the law's promise, at the heap behind the top. F, the promise of the law's def, may use that base is part of the heap (so K.In base, base.Ns mainGlobals mg stand in Mod) -/
theorem law_call {P : Program} {w : World} {K : PySem.W.Frag} {mg mb : Str → Option Value} {CX : CXT} {k : Nat} {fa a : Addr} {fd : FuncData} {x : Str} {sp : Sp} {s₁ : Shared} {vs : List Value} {ns : List Int}
    (KX : K.In s₁.heap) (hns : s₁.heap.Ns mainGlobals mg) (hb : s₁.heap.Ns builtinsNs mb) (hbb : ∀ x : Str, x ≠ "__name__" → mb x = bootBuiltins x) (hlim : s₁.heap.NoLimit) (hg : s₁.gens = #[]) (htk : 0 < s₁.toks)
    (ha : s₁.heap.get? a = some { cls := .type "list", data := .seq vs.toArray }) (hi : IntsAre vs ns) (hl : ns.length ≤ sizeLine) (hr : Room k callerA)
    (F : ∀ base : Heap, K.In base → base.Ns mainGlobals mg → FnOk P w K mg base CX k fa fd [x] sp) (hbind : ∀ (s : Shared) (u : Value), BindsTo s fd ⟨[u], []⟩ [(x, u)])
    (hsp : ∀ H : Hp, Only H → SqL K H a (ns.map V.int) → sp [.ref a] H (fun v _ => v = .bl true) fun _ _ _ => False)
    (hCX : ∀ H e s', CX [] H s₁ (fun _ _ _ => False) e s' → False) :
    codeAny (model P w) callerA (.call (.ref fa) ⟨[.ref a], []⟩) (fun r s' => r = .ok (.ret (.bool true)) ∧ OldK s₁.heap s'.heap ∧ s'.os = s₁.os ∧ AllBare s'.gens) s₁ := by
  have rv := vals_ints hi
  have lenV := hi.length
  -- from an abstract heap in which nothing but the script may be tracked
  have core : ∀ H : Hp, Only H → SqL K H a (ns.map V.int) → HOk P w H s₁.heap → (∀ b, H b ≠ none → b = a) → (H a ≠ none → K.lookup a = none) →
      codeAny (model P w) callerA (.call (.ref fa) ⟨[.ref a], []⟩) (fun r s' => r = .ok (.ret (.bool true)) ∧ OldK s₁.heap s'.heap ∧ s'.os = s₁.os ∧ AllBare s'.gens) s₁ := by
    intro H hO hS hok hA hK
    have base_of : ∀ {b : Addr} {o : Obj}, s₁.heap.get? b = some o → H b = none → (hidT s₁.heap H).get? b = some o := fun e n => hidT_get e n
    have noA : ∀ {b : Addr} {o : Obj} {es : Array DictEntry} {ep : Nat}, s₁.heap.get? b = some o → o.data = .dict es ep → H b = none := fun {b o es ep} e d => by
      cases q : H b with
      | none => rfl
      | some u =>
        have e' : b = a := hA b (by rw [q]; simp)
        subst e'
        rw [ha] at e; cases e
        have d' : Data.seq vs.toArray _ = Data.dict es ep := d
        cases d'
    have nsK : ∀ {b : Addr} {m : Str → Option Value}, s₁.heap.Ns b m → (hidT s₁.heap H).Ns b m := fun {b m} ⟨o, es, ep, e, d, r⟩ => ⟨o, es, ep, base_of e (noA e d), d, r⟩
    have hKb : K.In (hidT s₁.heap H) := fun b o e => base_of (KX b o e) (by
      cases q : H b with
      | none => rfl
      | some u =>
        have e' : b = a := hA b (by rw [q]; simp)
        subst e'
        rw [hK (by rw [q]; simp)] at e; cases e)
    have hM : Mod K mg (hidT s₁.heap H) := ⟨hKb, nsK hns, ⟨mb, nsK hb, hbb⟩, let ⟨mc, h1, h2⟩ := hlim; ⟨mc, nsK h1, h2⟩⟩
    have e0 : Env0 P w K mg (hidT s₁.heap H) callerA [] s₁ H := ⟨rfl, hM, fun b o e => of_hidT e, Nat.le_of_eq (hidT_size _ _), trivial, fun b hb => absurd (show b ∈ ([] : List Addr) from hb) (by simp), hok, .of_eq hg, htk⟩
    refine codeAny_mono ((F _ hKb (nsK hns)).run callerA [] s₁ H ⟨[.ref a], []⟩ [.ref a] [.ref a] _ _ hr e0 (hbind s₁ (.ref a)) (.cons rfl .nil) (hsp H hO hS)) fun r s' h => ?_
    cases r with
    | error e => exact (hCX H e s' h).elim
    | ok fl =>
      cases fl with
      | next => exact False.elim h
      | brk => exact False.elim h
      | cont => exact False.elim h
      | ret u =>
        obtain ⟨v, H', _, os, bare, un, hok', r', q⟩ := h
        have q' : v = .bl true := q
        subst q'
        obtain rfl : u = Value.bool true := r'
        refine ⟨rfl, OldK.of_keep fun b o e => ?_, os, bare⟩
        cases q : H b with
        | none => exact un.keep b o e q (by intro z; exact absurd (show b ∈ ([] : List Addr) from z) (by simp)) (by simp)
        | some u =>
          rcases hO b with z | ⟨ob, xs, z⟩
          · rw [q] at z; cases z
          · have z2 := un.frzs b ob _ z
            obtain ⟨e1, _⟩ := hok b _ z
            obtain ⟨e2, _⟩ := hok' b _ z2
            rw [e] at e1; cases e1
            exact e2
  cases hk : K.lookup a with
  | some o =>
    -- the script is one of the module's own objects
    have e := KX a o hk
    rw [ha] at e
    cases e
    refine core (fun _ => none) (fun _ => .inl rfl) (.inr ⟨_, vs.toArray, _, hk, rfl, rfl, rfl, by rw [List.size_toArray, lenV]; exact hl, by simpa using rv⟩) (fun b u z => by have z' : (none : Option HO) = some u := z; cases z') (fun b z => absurd rfl z) fun z => absurd rfl z
  | none =>
    refine core (fun b => if b = a then some (.frz { cls := .type "list", data := .seq vs.toArray } (.lst (ns.map V.int))) else none) (fun b => ?_) (.inl (.inr ⟨{ cls := .type "list", data := .seq vs.toArray }, if_pos rfl⟩)) (fun b u z => ?_) (fun b z => ?_) fun _ => hk
    · by_cases hb : b = a
      · exact .inr ⟨_, _, if_pos hb⟩
      · exact .inl (if_neg hb)
    · by_cases hb : b = a
      · have z' := (if_pos hb).symm.trans z
        cases z'
        subst hb
        exact ⟨ha, by rw [List.length_map]; exact hl, vs, _, rv, ha⟩
      · have z' := (if_neg hb).symm.trans z
        cases z'
    · by_cases hb : b = a
      · exact hb
      · exact absurd (if_neg hb) z
end L2

namespace L2
open PySem PySem.Spec PyProof.Rows

abbrev KOf {K : PySem.W.Frag} {h : Heap} (_ : K.In h) : PySem.W.Frag := K

/-- the goal that k_head leaves (case hc), from the law's promise. F gives the function object fd (K's own) once, then the promise over every base -/
theorem ofPys_ints : ∀ ns : List Int, PySem.W.ofPys (ns.map PyData.int) = ns.map PySem.W.WData.int
  | [] => by simp [PySem.W.ofPys]
  | n :: ns => by simp only [List.map_cons, PySem.W.ofPys, PySem.W.ofPy]; rw [ofPys_ints ns]
theorem walk_of {l : PySem.W.OpenLaw} {n k : Nat} {q : Program} {loose : List Str} {XP : (Str → Option Value) → Heap → Prop} {as : List Addr} {z t : Nat} {d : DefRec} {K : Params → PySem.W.Frag} {CX : World → CXT} {sp : World → Sp} {x : Str}
    (hn : l.most = some n) (hn2 : n ≤ sizeLine) (hdf : d.params.defaults = []) (hr : Room k callerA) (hk : ∀ P, as = (K P).map (·.1)) (h0 : 0 < t)
    (F : ∀ (w : World) (mg : Str → Option Value) (fa : Addr) (h : Heap), (K w.params).In h → h.Ns mainGlobals mg → mg d.name = some (.ref fa) →
      ∃ fd : FuncData, (∀ (s : Shared) (u : Value), BindsTo s fd ⟨[u], []⟩ [(x, u)]) ∧
        ∀ base : Heap, (K w.params).In base → base.Ns mainGlobals mg → FnOk l.prog w (K w.params) mg base (CX w) k fa fd [x] (sp w))
    (hsp : ∀ (w : World) (H : Hp) (a : Addr) (ns : List Int), ns.length ≤ n → Only H → SqL (K w.params) H a (ns.map V.int) → sp w [.ref a] H (fun v _ => v = .bl true) fun _ _ _ => False)
    (hCX : ∀ (w : World) (H : Hp) (s : Shared) (e : Value) (s' : Shared), CX w [] H s (fun _ _ _ => False) e s' → False) :
    PySem.W.WalkX q loose XP (PySem.W.X.obsZ as) (PySem.W.X.valZ K z t) l.row.toRowW d [] (fun f vs => PySem.call f vs) := by
  intro w s₀ s₁ mg mb G y fa o pm cd doc dV kV ho hd hcd hD hmg hg args vals aa L hpre hlay hrd hwl hlo
  obtain rfl : dV = .none := PySem.W.Dflts.none hD hdf
  obtain rfl : kV = .none := PySem.W.Dflts.noKw hD
  obtain ⟨a, vs, ns, rfl, rfl, hobj, hints, hlen⟩ := Att.script_of hn hpre hwl
  obtain ⟨_, KI, _, htk⟩ := PySem.W.X.z_facts hk y
  have KX := PySem.W.InK.keeps w _ _ KI L.keeps
  have tk : 0 < s₁.toks := Nat.lt_of_lt_of_le h0 (PySem.W.X.script_toks (ns := ns) (a := a) (by rw [PySem.W.ofPy, ofPys_ints]; exact L) htk)
  obtain ⟨fd, hb, hF⟩ := F w mg fa _ KX G.T.g hmg
  refine PySem.W.enter_call (codeAny_mono (law_call KX G.T.g G.T.b G.T.builtins G.T.nolimit hg tk hobj hints (Nat.le_trans hlen hn2) hr hF hb (fun H hO hS => hsp w H a ns hlen hO hS) fun H e s' => hCX w H s₁ e s') fun r s' hq => ?_)
  obtain ⟨rfl, h2, h3, h4⟩ := hq
  exact ⟨.inl ⟨.bool true, .bool true, [], rfl, fun _ => rfl, .bool true, Att.post_true l _, fun _ => ⟨List.Pairwise.nil, fun _ hm => (nomatch hm)⟩⟩, h2, h3, h4⟩
end L2

/- THE LAST THEOREM (shape; LID, My.* are yours):
   My.Adr: a structure of the addresses that your layer names (classes, functions); My.Txt K t: a structure (Prop) of the equations over K;
   My.txt_mk : {K} {implicit addresses ..} (e1 : nsIn K mainGlobals "law" = some (some (.ref f))) (e2 : K.lookup f = some ⟨oc, od, .func (fnOf "law" "law" params body scope dV kV doc pm an cdv ct), sl⟩) (e3 : codeIn K cdv "law" = true) .. : ∃ t, My.Txt K t

set_option maxRecDepth 100000 in
set_option maxHeartbeats 0 in
theorem PySem.Challenge.cw_LID_holds : PySem.Challenge.rw_LID.Holds := by
  w_on; o_law; k_head; (case hw => w_witness2)
  k_fill
  refine L2.walk_of (l := PySem.Challenge.rw_LID) (n := 63) (k := 40) (x := "script") (CX := fun w => ..) (sp := fun _ => My.sp_law) rfl (by decide) rfl ⟨rfl, by decide, by decide⟩ (fun w h Y => PySem.W.kIn_of Y) ?F ?S ?C
  case F =>
    intro w mg fa h KX G hmg
    have T : ∃ t, My.Txt (L2.KOf KX) t := by
      dsimp only [L2.KOf]                          -- K must stand as «<heap const> w.params» for k_is
      refine' My.txt_mk ?e1 ?e2 ?e3 ..
      (case e1 => PySem.W.k_is)                    -- in the order: a name -> its address -> its object -> its parts
      (case e2 => PySem.W.k_is)
      ..
    obtain ⟨t, T⟩ := T
    have e0 := hmg.symm.trans (PySem.W.mg_of KX G T.law)
    cases e0                                       -- fa is the law's own address
    exact ⟨_, fun s u => .of_eq rfl, fun base kb nb => My.law_fn T kb nb⟩     -- if «.of_eq rfl» comes too early: refine' ⟨_, ?b, fun base kb nb => My.law_fn T kb nb⟩; exact fun s u => .of_eq rfl
  case S => exact fun w H a ns hl hO hS => ..
  case C => exact ..
(the tactic k_is has no namespace: write k_is) -/

/-! SHORT WORDS over the layer: a def of the text, its body, what a loop and a test want. -/
namespace L2
open PySem PySem.Spec PyProof.Rows

/-! ### the text by places -/
/-- the j-th statement of a class's body -/
def inClass (s : Stmt) (j : Nat) : Stmt := match s with
  | .ClassDef _ _ _ body _ _ _ _ _ _ _ => body.getD j (.Pass ⟨0, 0, 0, 0⟩)
  | _ => .Pass ⟨0, 0, 0, 0⟩
def defArgs (s : Stmt) : Arguments := match s with
  | .FunctionDef _ a _ _ _ _ _ _ _ _ => a
  | _ => { posonlyargs := [], args := [], vararg := none, kwonlyargs := [], kw_defaults := [], kwarg := none, defaults := [] }
def defBody (s : Stmt) : List Stmt := match s with
  | .FunctionDef _ _ b _ _ _ _ _ _ _ => b
  | _ => []
def defScope (s : Stmt) : Scope := match s with
  | .FunctionDef _ _ _ _ _ _ sc _ _ _ => sc
  | _ => { kind := .function, names := [], isGenerator := false, isCoroutine := false }

/-! ### no exception leaves a def -/
abbrev CX0 : CXT := fun _ _ _ _ _ _ => False
abbrev E0 : XK := fun _ _ _ => False
theorem pass0 {X : Cx} : Passes CX0 X E0 := fun _ _ _ _ _ _ _ h => h.elim

/-! ### a def (or method) of the text as it stands behind the top -/
structure Fun (K : PySem.W.Frag) (x qual : Str) (st : Stmt) (f : Addr) (fd : FuncData) : Prop where
  ex : ∃ (oc : Value) (od : Option Addr) (kV doc pm : Value) (an : Option Addr) (cdv ct : Value) (osl : Array (Option Value)),
    fd = PySem.W.fnOf x qual (defArgs st) (defBody st) (defScope st) .none kV doc pm an cdv ct ∧ K.lookup f = some ⟨oc, od, .func fd, osl⟩ ∧ PySem.W.codeIn K cdv qual = true
  kp : PySem.W.keepIn K (.ref f) = true
section
variable {P : Program} {w : World} {K : PySem.W.Frag} {mg : Str → Option Value} {base : Heap}
/-- THE RULE for a def: its body as a term of rules, and the reading of that term -/
theorem Fun.ok {x qual : Str} {st : Stmt} {f : Addr} {fd : FuncData} {N ps : List Str} {k : Nat} {sp : Sp} (F : Fun K x qual st f fd) (S : FnScope N ps (defScope st)) (len : ∀ vs H Q E, sp vs H Q E → vs.length = ps.length)
    (hbody : ∀ (cdv : Value) (A : Around) (outer : List Env) (s : Shared) (H : Hp) (vs : List V) (Q : VK) (E : XK), Room k (A.deeper (envOfC qual (defScope st) s.heap.objs.size f cdv)) → sp vs H Q E →
      ∃ t, PSs (cxOf CX0 P w K mg base N qual (defScope st) f cdv A outer s H E).nox (defBody st) t ∧ t { nx := fun _ H' => Q .non H', rt := Q } (start N vs) H) : FnOk P w K mg base CX0 (k + 1) f fd ps sp := by
  obtain ⟨oc, od, kV, doc, pm, an, cdv, ct, osl, rfl, lk, hcd⟩ := F.ex
  refine fn_of lk hcd S len fun A outer s H vs Q E hr hsp => ?_
  obtain ⟨t, h, q⟩ := hbody cdv A outer s H vs Q E hr hsp
  exact ⟨t, h.nox, q⟩
/-- how its arguments bind (no defaults): h is «fun _ _ _ _ _ _ us hl => match us, hl with | [_, _], _ => rfl», one _ a parameter -/
theorem Fun.binds {x qual : Str} {st : Stmt} {f : Addr} {fd : FuncData} {ps : List Str} (F : Fun K x qual st f fd)
    (h : ∀ (kV doc pm : Value) (an : Option Addr) (cdv ct : Value) (us : List Value), us.length = ps.length → bindArgs (PySem.W.fnOf x qual (defArgs st) (defBody st) (defScope st) .none kV doc pm an cdv ct) ⟨us, []⟩ = pure (ps.zip us)) : Binds K fd ps [] := by
  obtain ⟨oc, od, kV, doc, pm, an, cdv, ct, osl, rfl, lk, hcd⟩ := F.ex
  exact .all (h kV doc pm an cdv ct)
theorem fun_mk {x qual : Str} {st : Stmt} {f : Addr} {oc : Value} {od an : Option Addr} {osl : Array (Option Value)} {kV doc pm cdv ct : Value} (l : K.lookup f = some ⟨oc, od, .func (PySem.W.fnOf x qual (defArgs st) (defBody st) (defScope st) .none kV doc pm an cdv ct), osl⟩)
    (c : PySem.W.codeIn K cdv qual = true) (k : PySem.W.keepIn K (.ref f) = true) : Fun K x qual st f (PySem.W.fnOf x qual (defArgs st) (defBody st) (defScope st) .none kV doc pm an cdv ct) := ⟨⟨oc, od, kV, doc, pm, an, cdv, ct, osl, rfl, l, c⟩, k⟩
end
theorem hu_of {A : Around} {k : Nat} (hr : Room k A) : A.units + 1 < cLine := Nat.lt_of_le_of_lt (Nat.add_le_add_left (by decide : 1 ≤ 64) _) hr.units
theorem small1000 {n : Nat} (h : n ≤ 1000) : n < sizeLine := Nat.lt_of_le_of_lt h (by decide)

/-! ### expressions in short: the name that stands in the i-th slot -/
section
variable {X : Cx}
theorem pv (i : Nat) {x : Str} {pos : Pos} (hN : X.N[i]? = some x := by rfl) (hv : Vis X.env.scope x := by first | exact Or.inl rfl | exact Or.inr (Or.inl rfl) | exact Or.inr (Or.inr rfl)) (hd : (x == ("__debug__" : Str)) = false := by decide)
    (hcd : (x == ("__classdict__" : Str)) = false := by decide) : PE X (.Name x pos) (tVar i) := pe_var hN hv hd hcd
end

/-! ### tests -/
theorem iteF {A B : Prop} (h : B) : if false = true then A else B := by
  rw [if_neg Bool.false_ne_true]
  exact h
theorem iteT {A B : Prop} (h : A) : if true = true then A else B := by
  rw [if_pos rfl]
  exact h
theorem ite2 {c A B : Prop} [Decidable c] (h1 : c → A) (h2 : ¬ c → B) : if c then A else B := by
  by_cases h : c
  · rw [if_pos h]
    exact h1 h
  · rw [if_neg h]
    exact h2 h
theorem iteNS {c A B : Prop} [Decidable c] (hc : c) (h : B) : if (!decide c) = true then A else B := by
  rw [decide_eq_true hc]
  exact iteF h

/-! ### heaps -/
/-- all that was tracked is as it was -/
def Same (H H' : Hp) : Prop := ∀ b o, H b = some o → H' b = some o
theorem Same.refl (H : Hp) : Same H H := fun _ _ h => h
theorem Same.trans {H H1 H2 : Hp} (a : Same H H1) (b : Same H1 H2) : Same H H2 := fun c o h => b c o (a c o h)
theorem Same.free {H H' : Hp} (e : Same H H') {l : Addr} (h : H' l = Option.none) : H l = Option.none := by
  cases q : H l with
  | none => rfl
  | some o =>
    rw [e l o q] at h
    cases h
theorem Same.seq {K : PySem.W.Frag} {H H' : Hp} {a : Addr} {xs : List V} (e : Same H H') (h : SqL K H a xs) : SqL K H' a xs := by
  rcases h with (h | ⟨o, h⟩) | h
  · exact .inl (.inl (e _ _ h))
  · exact .inl (.inr ⟨o, e _ _ h⟩)
  · exact .inr h

section
variable {X : Cx}
/-- len of a dict -/
theorem call_lenD : CallR X (.builtin "len") (fun xs H Q => ∃ a kvs, xs = [V.ref a] ∧ H a = some (.dK kvs) ∧ Q (.int kvs.length) H) := by
  intro pins s σ H xs us Q I r h
  obtain ⟨a, kvs, rfl, ha, q⟩ := h
  obtain ⟨u, rfl, ru⟩ := vals1 r
  cases ru
  exact d_len I (.inl ha) fun t s' I' => ⟨.int kvs.length, H, I', ⟨t, rfl⟩, q⟩
end
/-! ### a dict's pairs: keys that differ -/
section
variable {κ : Type} [DecidableEq κ]
theorem valV_not {kvs : List (κ × V)} {k : κ} (h : valV kvs k = none) : ¬ k ∈ kvs.map (·.1) := by
  intro m
  obtain ⟨p, hp, e⟩ := List.mem_map.mp m
  have q : (kvs.any fun kv => decide (kv.1 = k)) = true := List.any_eq_true.mpr ⟨p, hp, decide_eq_true e⟩
  rw [valV_any, h] at q
  exact absurd q (by simp)
theorem valV_in {kvs : List (κ × V)} {k : κ} {v : V} (h : valV kvs k = some v) : k ∈ kvs.map (·.1) := by
  have q : (kvs.any fun kv => decide (kv.1 = k)) = true := by
    rw [valV_any, h]
    all_goals rfl
  obtain ⟨p, hp, e⟩ := List.any_eq_true.mp q
  exact List.mem_map.mpr ⟨p, hp, of_decide_eq_true e⟩
theorem nd_snoc : ∀ {l : List κ} {k : κ}, l.Nodup → ¬ k ∈ l → (l ++ [k]).Nodup
  | [], k, _, _ => by simp
  | a :: r, k, h, hk => by
    obtain ⟨h1, h2⟩ := List.nodup_cons.mp h
    show (a :: (r ++ [k])).Nodup
    refine List.nodup_cons.mpr ⟨fun m => ?_, nd_snoc h2 fun m => hk (List.mem_cons.mpr (Or.inr m))⟩
    rcases List.mem_append.mp m with q | q
    · exact h1 q
    · exact hk (List.mem_cons.mpr (Or.inl (List.mem_singleton.mp q).symm))
theorem nd_putK {kvs : List (κ × V)} {k : κ} (v : V) (hn : (kvs.map (·.1)).Nodup) (h : valV kvs k = none) : ((putK kvs k v).map (·.1)).Nodup := by
  rw [putK_new v h, List.map_append]
  exact nd_snoc hn (valV_not h)
theorem dropK_pos {p : κ × V} {r : List (κ × V)} {k : κ} (e : p.1 = k) : dropK (p :: r) k = dropK r k := by
  unfold dropK
  rw [List.filter_cons, if_neg (by simp [e])]
theorem dropK_neg {p : κ × V} {r : List (κ × V)} {k : κ} (e : ¬ p.1 = k) : dropK (p :: r) k = p :: dropK r k := by
  unfold dropK
  rw [List.filter_cons, if_pos (by simp [e])]
theorem dropK_no : ∀ {kvs : List (κ × V)} {k : κ}, ¬ k ∈ kvs.map (·.1) → dropK kvs k = kvs
  | [], _, _ => rfl
  | p :: r, k, h => by
    have h' : ¬ k ∈ r.map (·.1) := fun m => by
      obtain ⟨q, hq, e⟩ := List.mem_map.mp m
      exact h (List.mem_map.mpr ⟨q, List.mem_cons.mpr (Or.inr hq), e⟩)
    rw [dropK_neg fun e => h (List.mem_map.mpr ⟨p, List.mem_cons.mpr (Or.inl rfl), e⟩), dropK_no h']
theorem dropK_mem {kvs : List (κ × V)} {k : κ} {p : κ × V} (h : p ∈ dropK kvs k) : p ∈ kvs := (List.mem_filter.mp h).1
theorem nd_dropK : ∀ {kvs : List (κ × V)} {k : κ}, (kvs.map (·.1)).Nodup → ((dropK kvs k).map (·.1)).Nodup
  | [], _, _ => List.nodup_nil
  | p :: r, k, h => by
    have h : (p.1 :: r.map (·.1)).Nodup := h
    obtain ⟨h1, h2⟩ := List.nodup_cons.mp h
    by_cases e : p.1 = k
    · rw [dropK_pos e]
      exact nd_dropK h2
    · rw [dropK_neg e]
      show (p.1 :: (dropK r k).map (·.1)).Nodup
      refine List.nodup_cons.mpr ⟨fun m => h1 ?_, nd_dropK h2⟩
      obtain ⟨q, hq, eq⟩ := List.mem_map.mp m
      exact List.mem_map.mpr ⟨q, dropK_mem hq, eq⟩
theorem dropK_len : ∀ {kvs : List (κ × V)} {k : κ}, (kvs.map (·.1)).Nodup → k ∈ kvs.map (·.1) → (dropK kvs k).length + 1 = kvs.length
  | [], _, _, m => by simp at m
  | p :: r, k, h, m => by
    have h : (p.1 :: r.map (·.1)).Nodup := h
    have m : k = p.1 ∨ k ∈ r.map (·.1) := List.mem_cons.mp m
    obtain ⟨h1, h2⟩ := List.nodup_cons.mp h
    by_cases e : p.1 = k
    · subst e
      rw [dropK_pos rfl, dropK_no h1]
      all_goals rfl
    · have m' : k ∈ r.map (·.1) := m.resolve_left fun z => e z.symm
      have q := dropK_len h2 m'
      rw [dropK_neg e, List.length_cons, List.length_cons]
      omega
end
end L2



/-! COMPREHENSIONS over the hand layer. -/
namespace L2
open PySem PySem.Spec PyProof.Rows

theorem noE {α : Type} {t : Sem α} {Q : α → Shared → Prop} {M : Model} {A : Around} {E : Value → Shared → Prop} {s : Shared} (h : wpAny M A t Q (fun _ _ => False) s) : wpAny M A t Q E s :=
  wpAny_mono h (fun _ _ q => q) fun _ _ z => False.elim z

/-- the cells of the free names of a comprehension -/
theorem closure_ex {env : Env} : ∀ (names : List (Str × NameKind)) (acc : List (Str × Addr)), (∀ y ∈ names, y.2 = .free → ∃ c, env.cells.lookup y.1 = some c) → (∀ x c, acc.lookup x = some c → env.cells.lookup x = some c) →
    ∃ cl, (forIn names acc fun (x : Str × NameKind) (r : List (Str × Addr)) =>
        (if (x.2 == .free) = true then (do let a ← cellOf env x.1; pure (ForInStep.yield ((x.1, a) :: r))) else pure (ForInStep.yield r) : Sem (ForInStep (List (Str × Addr))))) = (pure cl : Sem (List (Str × Addr))) ∧
      (∀ x c, cl.lookup x = some c → env.cells.lookup x = some c) ∧ (∀ x, (∃ c, acc.lookup x = some c) → ∃ c, cl.lookup x = some c) ∧ ∀ y ∈ names, y.2 = .free → ∃ c, cl.lookup y.1 = some c
  | [], acc, _, h2 => ⟨acc, by rw [List.forIn_nil], h2, fun _ h => h, fun _ h => by cases h⟩
  | (n, k) :: r, acc, h1, h2 => by
    by_cases hk : k = .free
    · subst hk
      obtain ⟨c, hc⟩ := h1 (n, .free) List.mem_cons_self rfl
      obtain ⟨cl, e, q1, q2, q3⟩ := closure_ex r ((n, c) :: acc) (fun y hy => h1 y (List.mem_cons_of_mem _ hy)) (fun x d hd => by
        rw [List.lookup_cons] at hd
        cases hx : x == n with
        | true => rw [hx] at hd; cases hd; rw [beq_iff_eq.mp hx]; exact hc
        | false => rw [hx] at hd; exact h2 x d hd)
      refine ⟨cl, ?_, q1, fun x hx => q2 x ?_, fun y hy hf => ?_⟩
      · rw [List.forIn_cons]
        have e0 : cellOf env n = pure c := by unfold cellOf; rw [hc]
        simp only [beq_self_eq_true, if_true, e0]
        exact e
      · rw [List.lookup_cons]
        cases x == n with
        | true => exact ⟨c, rfl⟩
        | false => exact hx
      · rcases List.mem_cons.mp hy with rfl | hy
        · exact q2 n ⟨c, by rw [List.lookup_cons]; simp⟩
        · exact q3 y hy hf
    · obtain ⟨cl, e, q1, q2, q3⟩ := closure_ex r acc (fun y hy => h1 y (List.mem_cons_of_mem _ hy)) h2
      refine ⟨cl, ?_, q1, q2, fun y hy hf => ?_⟩
      · rw [List.forIn_cons]
        have hb : (k == NameKind.free) = false := by simpa using hk
        simp only [hb, Bool.false_eq_true, if_false]
        exact e
      · rcases List.mem_cons.mp hy with rfl | hy
        · exact absurd hf hk
        · exact q3 y hy hf

theorem closureFor_ex {env : Env} {scope : Scope} (h : ∀ y ∈ scope.names, y.2 = .free → ∃ c, env.cells.lookup y.1 = some c) :
    ∃ cl, closureFor scope env = pure cl ∧ (∀ x c, cl.lookup x = some c → env.cells.lookup x = some c) ∧ ∀ y ∈ scope.names, y.2 = .free → ∃ c, cl.lookup y.1 = some c := by
  obtain ⟨cl, e, q1, _, q3⟩ := closure_ex (env := env) scope.names [] h (fun x c hc => by simp at hc)
  refine ⟨cl, ?_, q1, q3⟩
  unfold closureFor
  simp only []
  rw [show (forIn scope.names ([] : List (Str × Addr)) fun (x : Str × NameKind) (r : List (Str × Addr)) =>
        (match x with | (name, kind) => if (kind == .free) = true then (do let a ← cellOf env name; pure (ForInStep.yield ((name, a) :: r))) else pure (ForInStep.yield r) : Sem (ForInStep (List (Str × Addr))))) = (pure cl : Sem (List (Str × Addr))) from e]
  rfl

theorem lookup_relabel_free {env : Env} : ∀ {names : List (Str × NameKind)} {x : Str}, names.lookup x = some .free →
    (names.map fun (n, k) => if (k == NameKind.free && env.scope.kind == .function && env.kindOf n == some .cell) then (n, NameKind.cell) else (n, k)).lookup x = some .cell ∨
    (names.map fun (n, k) => if (k == NameKind.free && env.scope.kind == .function && env.kindOf n == some .cell) then (n, NameKind.cell) else (n, k)).lookup x = some .free
  | [], _, h => by simp at h
  | (n, k) :: r, x, h => by
    have ih := @lookup_relabel_free env r x
    show List.lookup x ((if (k == NameKind.free && env.scope.kind == .function && env.kindOf n == some .cell) = true then (n, NameKind.cell) else (n, k)) :: _) = _ ∨ List.lookup x ((if (k == NameKind.free && env.scope.kind == .function && env.kindOf n == some .cell) = true then (n, NameKind.cell) else (n, k)) :: _) = _
    cases hx : x == n with
    | true =>
      simp only [List.lookup_cons, hx] at h
      cases h
      by_cases hc : (NameKind.free == NameKind.free && env.scope.kind == .function && env.kindOf n == some .cell) = true
      · rw [if_pos hc]; exact .inl (by simp only [List.lookup_cons, hx])
      · rw [if_neg hc]; exact .inr (by simp only [List.lookup_cons, hx])
    | false =>
      simp only [List.lookup_cons, hx] at h
      by_cases hc : (k == NameKind.free && env.scope.kind == .function && env.kindOf n == some .cell) = true
      · rw [if_pos hc]; simp only [List.lookup_cons, hx]; exact ih h
      · rw [if_neg hc]; simp only [List.lookup_cons, hx]; exact ih h
theorem lookup_relabel_back {env : Env} : ∀ {names : List (Str × NameKind)} {x : Str} {k : NameKind},
    (names.map fun (n, k) => if (k == NameKind.free && env.scope.kind == .function && env.kindOf n == some .cell) then (n, NameKind.cell) else (n, k)).lookup x = some k →
    names.lookup x = some k ∨ (k = .cell ∧ names.lookup x = some .free)
  | [], _, _, h => by simp at h
  | (n, j) :: r, x, k, h => by
    have ih := @lookup_relabel_back env r x k
    have h : List.lookup x ((if (j == NameKind.free && env.scope.kind == .function && env.kindOf n == some .cell) = true then (n, NameKind.cell) else (n, j)) :: _) = some k := h
    by_cases hc : (j == NameKind.free && env.scope.kind == .function && env.kindOf n == some .cell) = true
    · rw [if_pos hc] at h
      cases hx : x == n with
      | true =>
        simp only [List.lookup_cons, hx] at h ⊢
        cases h
        have : j = .free := by
          cases j <;> simp at hc ⊢
        exact .inr ⟨rfl, by rw [this]⟩
      | false => simp only [List.lookup_cons, hx] at h ⊢; exact ih h
    · rw [if_neg hc] at h
      cases hx : x == n with
      | true => simp only [List.lookup_cons, hx] at h ⊢; exact .inl h
      | false => simp only [List.lookup_cons, hx] at h ⊢; exact ih h

/-- one turn of a comprehension, any target -/
theorem codeAny_compLoop_gen {prog : Program} {w : World} {A : Around} {R : Result → Shared → Prop} {s : Shared} {elt target iter : Expr} {ifs : List Expr} {scope : Scope} {pos : Pos} {it acc : Value} {env : Env} (I : Nat → Shared → Prop)
    (turn : ∀ n s, I n s → wpAny (model prog w) A (pyNext it) (fun r s₁ => match r with
      | none => R (.ok .next) s₁
      | some v => wpAny (model prog w) A (letOwnedTupleGo target it v) (fun _ s₁' => wpAny (model prog w) A (assign target env v) (fun _ s₂ =>
          wpAny (model prog w) A (forIn ifs true fun c r => if r = true then do let ok ← isTrue c env (eval c env); pure (ForInStep.yield ok) else pure (ForInStep.yield r)) (fun ok s₃ =>
            if ok = true then wpAny (model prog w) A (eval elt env) (fun x s₄ =>
              wpAny (model prog w) A (call (.builtin "list.append") [acc, x]) (fun _ s₅ => ∃ m, m < n ∧ I m s₅) (notedBy (model prog w) A env fun e s' => R (.error e) s') s₄) (notedBy (model prog w) A env fun e s' => R (.error e) s') s₃
            else ∃ m, m < n ∧ I m s₃) (notedBy (model prog w) A env fun e s' => R (.error e) s') s₂) (notedBy (model prog w) A env fun e s' => R (.error e) s') s₁') (notedBy (model prog w) A env fun e s' => R (.error e) s') s₁)
      (notedBy (model prog w) A env fun e s' => R (.error e) s') s)
    (n : Nat) (h : I n s) :
    codeAny (model prog w) A (.compLoop (.ListComp elt [⟨target, iter, ifs, 0⟩] scope pos) 0 it acc env) R s := by
  refine codeAny_loop rfl I (fun n s hI => ?_) n h
  show wpAny _ A ((compTurn (.ListComp elt [⟨target, iter, ifs, 0⟩] scope pos) 0 it acc env).onRaise (fun x => do noteFrame x env; theTreesLotGoes x)) _ _ s
  refine wpAny_noted ?_
  rw [compTurn_list]
  refine wpAny_bind (wpAny_standAt (wpAny_bind (wpAny_mono (turn n s hI) (fun r s₁ h₁ => ?_) fun _ _ h' => h')))
  cases r with
  | none => exact wpAny_pure h₁
  | some v =>
    refine wpAny_bind (wpAny_mono h₁ (fun _ s₁' h₁' => ?_) fun _ _ h' => h')
    refine wpAny_bind (wpAny_mono h₁' (fun _ s₂ h₂ => wpAny_bind (wpAny_mono h₂ (fun ok s₃ h₃ => ?_) fun _ _ h' => h')) fun _ _ h' => h')
    cases ok with
    | false => exact wpAny_pure ⟨rfl, h₃⟩
    | true =>
      exact wpAny_bind (wpAny_bind (wpAny_mono h₃ (fun x s₄ h₄ => wpAny_bind (wpAny_mono h₄ (fun _ s₅ h₅ => wpAny_pure (wpAny_pure ⟨rfl, h₅⟩)) fun _ _ h' => h')) fun _ _ h' => h'))

/-! ### the block -/
def blk (X : Cx) (N : List Str) (scope : Scope) (cl : List (Str × Addr)) (C : Addr) (s₂ : Shared) (H₂ : Hp) (fp : List Addr) (pn : List (Addr × Obj)) : Cx :=
  { X with N := N, s₀ := s₂, H₀ := H₂, env := compEnvC scope cl C X.env, outer := X.stack, stack := X.stack, ex := fp, fn := fun _ => false, pn := pn, xe := fun _ _ => False }
/-- the block's names: the free ones by their places outside, the own ones none -/
def grab (fr : List (Option Nat)) (σ : St) : St := fr.map fun o => match o with | some i => (σ[i]?).join | none => none
theorem grab_get {fr : List (Option Nat)} {σ : St} {j : Nat} {v : V} (h : (grab fr σ)[j]? = some (some v)) : ∃ i, fr[j]? = some (some i) ∧ σ[i]? = some (some v) := by
  unfold grab at h
  rw [List.getElem?_map] at h
  cases e : fr[j]? with
  | none => rw [e] at h; cases h
  | some o =>
    rw [e] at h
    cases o with
    | none => cases h
    | some i =>
      refine ⟨i, rfl, ?_⟩
      have h' : (σ[i]?).join = some v := Option.some.inj h
      cases e2 : σ[i]? with
      | none => rw [e2] at h'; cases h'
      | some x => rw [e2] at h'; cases x with
        | none => cases h'
        | some y => cases h'; rfl
/-- a target leaves the free names as they are -/
def TgOk (fr : List (Option Nat)) (g : TG) : Prop := ∀ (x : V) (σ : St) (H : Hp) (Q : St → Hp → Prop), g x σ H Q → g x σ H fun σ2 H2 => Q σ2 H2 ∧ ∀ (j i : Nat), fr[j]? = some (some i) → σ2[j]? = σ[j]?
def TgsOk (fr : List (Option Nat)) (g : TGs) : Prop := ∀ (xs : List V) (σ : St) (H : Hp) (Q : St → Hp → Prop), g xs σ H Q → g xs σ H fun σ2 H2 => Q σ2 H2 ∧ ∀ (j i : Nat), fr[j]? = some (some i) → σ2[j]? = σ[j]?
theorem tg_name {fr : List (Option Nat)} {i : Nat} (h : fr[i]? = some none := by rfl) : TgOk fr (gName i) := fun x σ H Q q => ⟨q, fun j k hj => by
  have : i ≠ j := by rintro rfl; rw [h] at hj; cases hj
  rw [List.getElem?_set_ne this]⟩
theorem tg_nil {fr : List (Option Nat)} : TgsOk fr gNil := fun xs σ H Q ⟨e, q⟩ => ⟨e, q, fun _ _ _ => rfl⟩
theorem gName_mono {i : Nat} {x : V} {σ : St} {H : Hp} {Q Q' : St → Hp → Prop} (h : gName i x σ H Q) (hQ : ∀ σ H, Q σ H → Q' σ H) : gName i x σ H Q' := hQ _ _ h
theorem tg_cons {fr : List (Option Nat)} {i : Nat} {u : TGs} (h : fr[i]? = some none) (hu : TgsOk fr u) : TgsOk fr (gCons (gName i) u) := fun xs σ H Q ⟨v, r, e, q⟩ => by
  refine ⟨v, r, e, ?_⟩
  have q : u r (σ.set i (some v)) H Q := q
  have e2 := hu _ _ _ _ q
  have k : ∀ j k, fr[j]? = some (some k) → (σ.set i (some v))[j]? = σ[j]? := fun j k hj => by
    have : i ≠ j := by rintro rfl; rw [h] at hj; cases hj
    rw [List.getElem?_set_ne this]
  have e3 : (fun (σ2 : St) (H2 : Hp) => Q σ2 H2 ∧ ∀ (j k : Nat), fr[j]? = some (some k) → σ2[j]? = σ[j]?) = (fun (σ2 : St) (H2 : Hp) => Q σ2 H2 ∧ ∀ (j k : Nat), fr[j]? = some (some k) → σ2[j]? = (σ.set i (some v))[j]?) := by
    funext σ2 H2
    refine propext ⟨fun ⟨a, b⟩ => ⟨a, fun j m hj => (b j m hj).trans (k j m hj).symm⟩, fun ⟨a, b⟩ => ⟨a, fun j m hj => (b j m hj).trans (k j m hj)⟩⟩
  show u r (σ.set i (some v)) H _
  rw [e3]
  exact e2
theorem tg_tup {fr : List (Option Nat)} {K : PySem.W.Frag} {n : Nat} {u : TGs} (hu : TgsOk fr u) : TgOk fr (gTup K n u) := fun x σ H Q ⟨a, xs, e1, e2, e3, q⟩ => ⟨a, xs, e1, e2, e3, hu _ _ _ _ q⟩

/-- the tests of a comprehension: none, or one -/
def PTs (X : Cx) (ifs : List Expr) (t : TT) : Prop :=
  ∀ (pins : List (Addr × Obj)) (s : Shared) (σ : St) (H : Hp) (Q : Bool → Hp → Prop), Inv X pins σ H s → t σ H Q →
    wpAny (model X.prog X.w) X.A (forIn ifs true fun c r => if r = true then do let ok ← isTrue c X.env (eval c X.env); pure (ForInStep.yield ok) else pure (ForInStep.yield r)) (TP X pins σ Q) X.xe s
def tTT : TT := fun _ H Q => Q true H
theorem pts_nil {X : Cx} : PTs X [] tTT := fun _ _ _ H _ I h => wpAny_tests_nil ⟨H, I, h⟩
theorem pts_one {X : Cx} {c : Expr} {t : TT} (h : PT X c t) : PTs X [c] t := fun pins s σ H Q I hq => wpAny_tests_one (h pins s σ H Q I hq)

structure CompScope (X : Cx) (scope : Scope) (N : List Str) (fr : List (Option Nat)) : Prop where
  kind : scope.kind = .function
  nocell : ∀ y ∈ scope.names, y.2 ≠ .cell
  names : ∀ y ∈ scope.names, y.2 = .local → scope.names.lookup y.1 = some .local
  free : ∀ y ∈ scope.names, y.2 = .free → X.env.scope.names.lookup y.1 = some .cell ∨ X.env.scope.names.lookup y.1 = some .free
  len : N.length = fr.length
  at_ : ∀ (j i : Nat) (x : Str), fr[j]? = some (some i) → N[j]? = some x → X.N[i]? = some x ∧ scope.names.lookup x = some .free

def compChk (osc : Scope) (ON : List Str) (scope : Scope) (N : List Str) (fr : List (Option Nat)) : Bool :=
  decide (scope.kind = .function) && scope.names.all (fun y => decide (y.2 ≠ .cell)) && scope.names.all (fun y => decide (y.2 ≠ .local) || decide (scope.names.lookup y.1 = some .local)) &&
  scope.names.all (fun y => decide (y.2 ≠ .free) || decide (osc.names.lookup y.1 = some .cell) || decide (osc.names.lookup y.1 = some .free)) && decide (N.length = fr.length) &&
  (fr.zip N).all (fun p => match p.1 with | some i => decide (ON[i]? = some p.2) && decide (scope.names.lookup p.2 = some .free) | none => true)
theorem comp_scope {X : Cx} {osc : Scope} {ON : List Str} {scope : Scope} {N : List Str} {fr : List (Option Nat)} (h : compChk osc ON scope N fr = true) (e1 : X.env.scope = osc) (e2 : X.N = ON) : CompScope X scope N fr := by
  subst e1 e2
  unfold compChk at h
  simp only [Bool.and_eq_true, List.all_eq_true, Bool.or_eq_true, decide_eq_true_eq] at h
  obtain ⟨⟨⟨⟨⟨h1, h2⟩, h3⟩, h4⟩, h5⟩, h6⟩ := h
  refine ⟨h1, h2, fun y hy e => (h3 y hy).resolve_left fun z => z e, fun y hy e => ?_, h5, fun j i x e1 e2 => ?_⟩
  · rcases h4 y hy with (z | z) | z
    · exact absurd e z
    · exact .inl z
    · exact .inr z
  · have hm : (some i, x) ∈ fr.zip N := by
      apply List.mem_of_getElem? (i := j)
      rw [List.getElem?_zip_eq_some]
      exact ⟨e1, e2⟩
    have := h6 _ hm
    simpa using this

/-- the reading of a comprehension: W by the turn, a measure, what was gathered, the heap -/
def tComp (fr : List (Option Nat)) (wi : TI) (g : TG) (tt : TT) (te : TE) : TE := fun σ H Q => wi σ H fun J H1 =>
  ∃ W : Nat → Nat → List V → Hp → Prop, (∃ m, W 0 m [] H1) ∧ ∀ i m ys H, W i m ys H → ys.length ≤ sizeLine ∧
    ((J.stop i H ∧ ∀ p, H p = none → Q (.ref p) (upd H p (.lst ys))) ∨
     (J.go i H ∧ ∃ NN : List V → Hp → Prop, (∀ ys' H', NN ys' H' → ∃ m', m' < m ∧ W (i + 1) m' ys' H') ∧ ∀ x H', J.yld i H x H' → g x (grab fr σ) H' fun σ2 H2 => tt σ2 H2 fun b H3 =>
        if b = true then te σ2 H3 fun y H4 => NN (ys ++ [y]) H4 else NN ys H3))

/-- the block's end: the list is adopted -/
structure BlkEnd (X : Cx) (pins : List (Addr × Obj)) (σ : St) (Q : VK) (C D : Addr) (s' : Shared) : Prop where
  ex : ∃ (ys : List V) (H : Hp), H D = none ∧ (∃ m, s'.heap.Ns C m) ∧ D ≠ C ∧ C ≠ X.env.locals ∧ (∀ x c, X.env.cells.lookup x = some c → c ≠ C) ∧ (∀ p ∈ X.pn ++ pins, p.1 ≠ C) ∧ X.s₀.heap.objs.size ≤ C ∧ C ∉ X.fs ∧
    (upd H D (.lst ys)) C = none ∧
    (∀ h', Heap.SameBut C s'.heap h' → Inv X pins σ (upd H D (.lst ys)) { s' with heap := h' }) ∧ Q (.ref D) (upd H D (.lst ys))

theorem comp_block {X : Cx} {elt iter tg : Expr} {ifs : List Expr} {scope : Scope} {pos : Pos} {N : List Str} {fr : List (Option Nat)} {g : TG} {tt : TT} {te : TE} {cl : List (Str × Addr)}
    (hcalm : X.calm = true) (S : CompScope X scope N fr) (hclS : ∀ x c, cl.lookup x = some c → X.env.cells.lookup x = some c) (hclH : ∀ y ∈ scope.names, y.2 = .free → ∃ c, cl.lookup y.1 = some c)
    (hg : ∀ C s₂ H₂ fp pn, PG (blk X N scope cl C s₂ H₂ fp pn) tg g) (hgo : TgOk fr g) (ht : ∀ C s₂ H₂ fp pn, PTs (blk X N scope cl C s₂ H₂ fp pn) ifs tt) (he : ∀ C s₂ H₂ fp pn, PE (blk X N scope cl C s₂ H₂ fp pn) elt te)
    {pins : List (Addr × Obj)} {s2 : Shared} {σ : St} {H2 : Hp} {Q : VK} {it : Addr} {fp : List Addr} {tn : Nat → Heap → Prop} {J : It} (I2 : Inv X pins σ H2 s2) (T : Turn X.prog X.w X.K tg J fp it tn) (st2 : tn 0 s2.heap) (f2 : ∀ b ∈ fp, FpOk X pins H2 b)
    (W : Nat → Nat → List V → Hp → Prop) (w0 : ∃ m, W 0 m [] H2)
    (turn : ∀ i m ys H, W i m ys H → ys.length ≤ sizeLine ∧
    ((J.stop i H ∧ ∀ p, H p = none → Q (.ref p) (upd H p (.lst ys))) ∨
     (J.go i H ∧ ∃ NN : List V → Hp → Prop, (∀ ys' H', NN ys' H' → ∃ m', m' < m ∧ W (i + 1) m' ys' H') ∧ ∀ x H', J.yld i H x H' → g x (grab fr σ) H' fun σ2 H2 => tt σ2 H2 fun b H3 =>
        if b = true then te σ2 H3 fun y H4 => NN (ys ++ [y]) H4 else NN ys H3)))
    {E : Value → Shared → Prop} {RR : Value → Addr → Result → Shared → Prop} (hRR : ∀ C D s', BlkEnd X pins σ Q C D s' → RR (.ref D) C (.ok .next) s') :
    wpAny (model X.prog X.w) X.A (newList []) (fun acc s₃ => wpAny (model X.prog X.w) X.A (newFunctionEnv scope X.env.globals cl [] X.env.qual none .none (some X.env)) (fun cenv s₄ =>
      codeAny (model X.prog X.w) X.A (.compStart (.ListComp elt [⟨tg, iter, ifs, 0⟩] scope pos) 0 (.ref it) acc { cenv with scope := relabel scope X.env }) (RR acc cenv.locals) s₄) E s₃) E s2 := by
  obtain ⟨m0, w0⟩ := w0
  refine wpAny_newObj_type (wpAny_newFunctionEnv S.nocell (by intro y hy; simp at hy) (fun h₁ hns₁ hsb₁ => ?_) S.kind)
  dsimp only at hns₁ hsb₁ ⊢
  generalize hHH : s2.heap.push { cls := .type "list", dict := none, data := .seq ([] : List Value).toArray } = HH at hns₁ hsb₁ ⊢
  have hC : HH.objs.size = s2.heap.objs.size + 1 := by rw [← hHH, Heap.size_push]
  generalize hDD : s2.heap.objs.size = D at *
  generalize hCC : HH.objs.size = C at *
  have hDlt : Nat.lt D C := by show D < C; rw [hC]; exact Nat.lt_succ_self _
  have hDC : D ≠ C := Nat.ne_of_lt hDlt
  have neD : ∀ {b : Addr}, Nat.lt b D → b ≠ D := fun h => Nat.ne_of_lt h
  have neC : ∀ {b : Addr}, Nat.lt b D → b ≠ C := fun h => Nat.ne_of_lt (Nat.lt_trans h hDlt)
  have below : ∀ (b : Addr) (o : Obj), s2.heap.get? b = some o → Nat.lt b D := fun b o e => by rw [← hDD]; exact Heap.lt_size e
  have old : ∀ b o, s2.heap.get? b = some o → h₁.get? b = some o := fun b o e => hsb₁.extBut b o (neC (below b o e)) (Heap.get?_push_of_some _ (hHH ▸ Heap.get?_push_of_some _ e))
  have hacc : h₁.get? D = some { cls := .type "list", data := .seq ([] : List Value).toArray } := hsb₁.extBut _ _ hDC (Heap.get?_push_of_some _ (by rw [← hHH, ← hDD]; exact Heap.get?_push_size _ rfl))
  have Lt : Nat.lt X.env.locals D := by rw [← hDD]; exact I2.lt
  have cellLt : ∀ x c, X.env.cells.lookup x = some c → Nat.lt c D := fun x c e => by
    obtain ⟨v, q⟩ := I2.cell x c e
    rw [← hDD]; exact q.lt
  have pinLt : ∀ p ∈ X.pn ++ pins, Nat.lt p.1 D := fun p hp => below p.1 p.2 (I2.pin p hp).1
  have freshH : ∀ b : Addr, Nat.le D b → H2 b = none := fun b hb => I2.hok.fresh (by rw [hDD]; exact hb)
  -- the block's context
  let X' : Cx := blk X N scope cl C s2 H2 fp (X.pn ++ pins)
  have okX : X'.Ok := by
    refine ⟨I2.ok.mod, S.kind, I2.ok.glob, I2.ok.blt, by show s2.heap.objs.size ≤ C; rw [hDD]; exact Nat.le_of_lt hDlt, fun x y c e1 e2 => I2.ok.inj x y c (hclS _ _ e1) (hclS _ _ e2), fun x hx => ?_, fun x c hf _ => (by cases hf), I2.ok.hd, I2.ok.frames, .inl rfl, fun b hb => ⟨?_, fun x c e => (f2 b hb).2.2.2.2.1 x c (hclS _ _ e)⟩, I2.bs, Nat.le_trans I2.ok.bsz I2.sz, fun b o e hb => ?_, fun b hb hm => ?_, I2.stack, I2.stkFree⟩
    · have hx : (relabel scope X.env).names.lookup x = some .cell ∨ (relabel scope X.env).names.lookup x = some .free := hx
      have hf : scope.names.lookup x = some .free := by
        rcases hx with hx | hx
        · rcases lookup_relabel_back hx with h | ⟨_, h⟩
          · exact absurd rfl (S.nocell _ (PySem.mem_of_lookup h))
          · exact h
        · rcases lookup_relabel_back hx with h | ⟨h, _⟩
          · exact h
          · cases h
      exact hclH _ (PySem.mem_of_lookup hf) rfl
    · obtain ⟨o, e, _⟩ := T.obj 0 _ st2 b hb
      exact neC (below b o e)
    · obtain ⟨_, _, _, h, _⟩ := f2 b hb
      rcases h with h | h
      · exact I2.ok.noex b o e h
      · have := Heap.lt_size (I2.ok.bs b o e).1
        exact absurd (Nat.lt_of_lt_of_le this h) (Nat.lt_irrefl _)
    · rcases List.mem_cons.mp (I2.stkSub b hm) with h | h
      · exact (f2 b hb).2.1 h
      · exact (f2 b hb).2.2.1 h
  have I4 : ∀ tk, 0 < tk → Inv X' [(D, { cls := .type "list", data := .seq ([] : List Value).toArray })] (grab fr σ) H2 { s2 with heap := h₁, toks := tk } := fun tk htk => by
    refine ⟨okX, rfl, I2.bare, Un.kept old, ⟨_, hns₁, fun j x v e1 e2 e3 => ?_⟩, fun x c e => ?_, freshH C (Nat.le_of_lt hDlt), fun x c e => I2.freeC x c (hclS _ _ e), fun p hp => ?_, I2.hok.kept old, ?_, htk⟩
    · obtain ⟨i, q1, q2⟩ := grab_get e2
      obtain ⟨a1, a2⟩ := S.at_ j i x q1 e1
      obtain ⟨m, hn, hl⟩ := I2.loc
      have vis : Vis X.env.scope x := by
        rcases S.free _ (PySem.mem_of_lookup a2) rfl with h | h
        · exact .inr (.inl h)
        · exact .inr (.inr h)
      obtain ⟨u, r, l⟩ := hl i x v a1 q2 vis
      refine ⟨u, r, .inr ⟨?_, ?_⟩⟩
      · exact lookup_relabel_free (env := X.env) a2
      · rcases l with ⟨hk, _⟩ | ⟨_, c, hc, hcell⟩
        · have hk : X.env.scope.names.lookup x = some .local := hk
          rcases S.free _ (PySem.mem_of_lookup a2) rfl with h | h
          · have h : X.env.scope.names.lookup x = some .cell := h
            rw [hk] at h; cases h
          · have h : X.env.scope.names.lookup x = some .free := h
            rw [hk] at h; cases h
        · obtain ⟨c', hc'⟩ := hclH _ (PySem.mem_of_lookup a2) rfl
          have : c = c' := by
            have := hclS _ _ hc'
            rw [hc] at this
            exact Option.some.inj this
          subst this
          obtain ⟨o, ho, hd⟩ := hcell
          exact ⟨c, hc', o, old c o ho, hd⟩
    · obtain ⟨v, o, ho, hd⟩ := I2.cell x c (hclS _ _ e)
      exact ⟨v, o, old c o ho, hd⟩
    · rcases List.mem_append.mp hp with hp | hp
      · obtain ⟨e, n, ne, nf, d⟩ := I2.pin p hp
        refine ⟨old _ _ e, n, ?_, fun hm => ?_, d⟩
        · exact neC (pinLt p hp)
        · rcases List.mem_cons.mp (I2.stkSub _ hm) with h | h
          · exact ne h
          · exact nf h
      · have hp : p = (D, { cls := .type "list", data := .seq ([] : List Value).toArray }) := by simpa using hp
        subst hp
        refine ⟨hacc, freshH D (Nat.le_refl _), hDC, fun hm => ?_, fun v z => by cases z⟩
        rcases List.mem_cons.mp (I2.stkSub _ hm) with h | h
        · exact neD Lt h.symm
        · exact I2.nofs (by rw [hDD]; exact Nat.le_refl _) h
    · show (grab fr σ).length = N.length
      unfold grab
      rw [List.length_map, S.len]
  -- facts about the iterator's objects within the block
  have fpLt : ∀ b ∈ fp, Nat.lt b D := fun b hb => by
    obtain ⟨o, e, _⟩ := T.obj 0 _ st2 b hb
    exact below b o e
  have fpk : ∀ {H : Hp} {oD : Obj}, (∀ b ∈ fp, H b = none) → ∀ b ∈ fp, FpOk X' [(D, oD)] H b := fun {H oD} hn b hb => by
    refine ⟨hn b hb, ?_, fun hm => ?_, .inl hb, fun x c e => (f2 b hb).2.2.2.2.1 x c (hclS _ _ e), fun p hp => ?_⟩
    · exact neC (fpLt b hb)
    · rcases List.mem_cons.mp (I2.stkSub b hm) with h | h
      · exact (f2 b hb).2.1 h
      · exact (f2 b hb).2.2.1 h
    · rcases List.mem_append.mp hp with hp | hp
      · exact (f2 b hb).2.2.2.2.2 p hp
      · have hp : p = (D, oD) := by simpa using hp
        subst hp
        exact (neD (fpLt b hb)).symm
  have loop : ∀ s₃ : Shared, s₃ = { s2 with heap := h₁, toks := s2.toks + ([] : List (Str × Value)).length } →
      codeAny (model X.prog X.w) X.A (.compLoop (.ListComp elt [⟨tg, iter, ifs, 0⟩] scope pos) 0 (.ref it) (.ref D) (compEnvC scope cl C X.env)) (RR (.ref D) C) s₃ := by
    rintro s₃ rfl
    refine codeAny_compLoop_gen (fun n s' => ∃ i ys its k H', Inv X' [(D, ({ cls := .type "list", data := .seq its k } : Obj))] (grab fr σ) H' s' ∧ tn i s'.heap ∧ (∀ b ∈ fp, H' b = none) ∧ Vals ys its.toList ∧ W i n ys H') ?_ m0
      ⟨0, [], #[], _, H2, I4 _ (by first | exact I2.tk | exact Nat.succ_pos _), T.keep 0 _ _ st2 (fun b _ o e => old b o e), fun b hb => (f2 b hb).1, .nil, w0⟩
    rintro n s3 ⟨i, ys, its, k, H3, I3, st3, fr3, vy, w3⟩
    obtain ⟨hsz, h⟩ := turn i n ys H3 w3
    rcases h with ⟨stop, qn⟩ | ⟨go, NN, hNN, step⟩
    · refine noE (thn (T.done X' rfl rfl rfl hcalm i [(D, _)] s3 (grab fr σ) H3 _ I3 (fpk fr3) st3 stop) fun r s4 ⟨hr, I4⟩ => ?_)
      subst hr
      refine hRR C D s4 ⟨ys, H3, ?_⟩
      obtain ⟨pD, nD, _, _, _⟩ := I4.pin (D, _) (List.mem_append_right _ (List.mem_singleton.mpr rfl))
      have pD : s4.heap.get? D = some { cls := .type "list", data := .seq its k } := pD
      have nD : H3 D = none := nD
      have nC : H3 C = none := I4.free
      obtain ⟨mC, hnC, _⟩ := I4.loc
      refine ⟨nD, ⟨mC, hnC⟩, hDC, (neC Lt).symm, fun x c e z => ?_, fun p hp z => ?_, ?_, fun hm => ?_, ?_, fun h' hsb => ?_, qn D nD⟩
      · exact neC (cellLt x c e) z
      · exact neC (pinLt p hp) z
      · have := I2.sz; rw [hDD] at this; exact Nat.le_trans this (Nat.le_of_lt hDlt)
      · exact I2.nofs (by rw [hDD]; exact Nat.le_of_lt hDlt) hm
      · rw [upd_ne (Ne.symm hDC)]; exact nC
      · have un : Un (frs X.stack) fp H2 (upd H3 D (.lst ys)) s2.heap h' := by
          have u := I4.base
          have neC : ∀ (b : Addr) (o : Obj), s2.heap.get? b = some o → b ≠ C := fun b o e => neC (below b o e)
          have neD : ∀ (b : Addr) (o : Obj), s2.heap.get? b = some o → b ≠ D := fun b o e => neD (below b o e)
          have trkNe : ∀ b (o : HO), H3 b = some o → b ≠ D := fun b o e z => by rw [z, nD] at e; cases e
          refine ⟨fun b o e n hb hx => hsb.extBut b o (neC b o e) (u.keep b o e n hb hx), fun b o e n hb hx => ?_, fun b o e n hx => by rw [upd_ne (neD b o e)]; exact u.free b o e n hx, fun b o e hx => ?_, fun b xs e => ?_, fun b o xs e => ?_, fun b ps e => ?_⟩
          · obtain ⟨sl, q⟩ := u.slot b o e n hb hx
            exact ⟨sl, hsb.extBut b _ (neC b o e) q⟩
          · obtain ⟨o', q⟩ := u.there b o e hx
            exact ⟨o', hsb.extBut b _ (neC b o e) q⟩
          · have q := u.tups b xs e
            rw [upd_ne (trkNe b _ q)]; exact q
          · have q := u.frzs b o xs e
            rw [upd_ne (trkNe b _ q)]; exact q
          · obtain ⟨more, q⟩ := u.tbls b ps e
            exact ⟨more, by rw [upd_ne (trkNe b _ q)]; exact q⟩
        have hok : HOk X.prog X.w (upd H3 D (.lst ys)) h' := fun b u e => by
          by_cases hb : b = D
          · rw [hb, upd_same] at e
            cases e
            rw [hb]
            exact ⟨hsz, its.toList, k, vy, by simpa using hsb.extBut D _ hDC pD⟩
          · rw [upd_ne hb] at e
            refine (I4.hok b u e).stay (fun c v hc q => hsb.extBut c v ?_ q) (fun c q => ?_) fun c xs q => ?_
            · rcases hc with rfl | hc
              · rintro rfl; rw [nC] at e; cases e
              · rintro rfl; rw [nC] at hc; cases hc
            · rw [upd_ne (ne_of_none q nD)]; exact q
            · rw [upd_ne (ne_of_none q nD)]; exact q
        obtain ⟨hh, gg, dd, tt', os'⟩ := s4
        obtain rfl : os' = s2.os := I4.os
        refine (show Inv X pins σ (upd H3 D (.lst ys)) { s2 with heap := h', gens := gg, drawn := dd, toks := tt' } from I2.call (h' := h') (g' := gg) (d' := dd) (t' := tt') (ch := fp) un hok I4.bare fun b hb => ?_)
        obtain ⟨_, f1, _, f3, f4, f5⟩ := f2 b hb
        exact ⟨f3, f1, f4, f5⟩
    · refine noE (thn (T.item X' rfl rfl rfl hcalm i [(D, _)] s3 (grab fr σ) H3 _ I3 (fpk fr3) st3 go) fun r s4 ⟨u, hr, h4⟩ => ?_)
      subst hr
      refine noE (thn h4 fun _ s5 ⟨x, H5, I5, r5, y5, st5, fr5⟩ => ?_)
      have I5' := I5.pinned (fpk fr5) (T.obj _ _ st5)
      refine noE (thn (hg C s2 H2 fp (X.pn ++ pins) _ s5 (grab fr σ) H5 x u _ I5' r5 (hgo _ _ _ _ (step x H5 y5))) fun _ s6 ⟨σ6, H6, I6, q6, k6⟩ => ?_)
      refine noE (thn (ht C s2 H2 fp (X.pn ++ pins) _ s6 σ6 H6 _ I6 q6) fun b s7 ⟨H7, I7, q7⟩ => ?_)
      -- back to the turn's begin
      have back : ∀ {s8 : Shared} {H8 : Hp}, Inv X' ([(D, ({ cls := .type "list", data := .seq its k } : Obj))] ++ pinsAt fp s5.heap) σ6 H8 s8 → Inv X' [(D, ({ cls := .type "list", data := .seq its k } : Obj))] (grab fr σ) H8 s8 ∧ tn (i + 1) s8.heap ∧ ∀ b ∈ fp, H8 b = none := fun {s8 H8} I8 => by
        refine ⟨(I8.unpinned).weak ?_ fun j v e => ?_, T.keep _ _ _ st5 fun b hb o e => (I8.pin (b, o) (List.mem_append_right _ (List.mem_append_right _ (mem_pinsAt hb e)))).1, fun b hb => ?_⟩
        · rw [I8.len]; show (grab fr σ).length = N.length; unfold grab; rw [List.length_map, S.len]
        · obtain ⟨i', q1, _⟩ := grab_get e
          rw [k6 j i' q1]; exact e
        · obtain ⟨o, e, d⟩ := T.obj _ _ st5 b hb
          exact (I8.pin (b, o) (List.mem_append_right _ (List.mem_append_right _ (mem_pinsAt hb e)))).2.1
      cases b with
      | false =>
        rw [if_neg Bool.false_ne_true] at q7 ⊢
        obtain ⟨m', hm, w7⟩ := hNN _ _ q7
        obtain ⟨J1, J2, J3⟩ := back I7
        exact ⟨m', hm, i + 1, ys, its, k, H7, J1, J2, J3, vy, w7⟩
      | true =>
        rw [if_pos rfl] at q7 ⊢
        refine noE (thn (he C s2 H2 fp (X.pn ++ pins) _ s7 σ6 H7 _ I7 q7) fun y s8 ⟨yv, H8, I8, r8, n8⟩ => ?_)
        obtain ⟨m', hm, w8⟩ := hNN _ _ n8
        obtain ⟨J1, J2, J3⟩ := back I8
        obtain ⟨pD, nD, _, _, _⟩ := J1.pin (D, _) (List.mem_append_right _ (List.mem_singleton.mpr rfl))
        have pD : s8.heap.get? D = some { cls := .type "list", data := .seq its k } := pD
        have nD : H8 D = none := nD
        have hz' : its.size ≤ sizeLine := by
          have e1 : its.size = ys.length := by rw [vy.length]; simp
          rw [e1]; exact hsz
        refine wpAny_list_append_plain (hsz := hz') ⟨k, pD⟩ fun h' ⟨k', hl'⟩ hsb => ?_
        · refine ⟨m', hm, i + 1, ys ++ [yv], its.push y, k', H8, ?_, T.keep _ _ _ J2 fun b hb o e => ?_, J3, ?_, w8⟩
          · have K0 : Inv X' [] (grab fr σ) H8 s8 := J1.pins_of fun p hp => by cases hp
            have K1 : Inv X' [] (grab fr σ) H8 { s8 with heap := h' } := by
              refine K0.turned (it := D) (t' := s8.toks) (fun b o hb e => hsb.extBut b o hb e) nD hDC (.inr (by show s2.heap.objs.size ≤ D; rw [hDD]; exact Nat.le_refl _)) (fun x c e z => ?_) fun p hp z => ?_
              · exact neD (cellLt x c (hclS _ _ e)) z
              · have hp : p ∈ X.pn ++ pins := by
                  rcases List.mem_append.mp hp with hp | hp
                  · exact hp
                  · cases hp
                exact neD (pinLt p hp) z
            refine K1.pins_of fun p hp => ?_
            have hp : p = (D, ({ cls := .type "list", data := .seq (its.push y) k' } : Obj)) := by simpa using hp
            subst hp
            refine ⟨hl', nD, hDC, fun hm => ?_, fun v z => by cases z⟩
            rcases List.mem_cons.mp (I2.stkSub _ hm) with h | h
            · exact neD Lt h.symm
            · exact I2.nofs (by rw [hDD]; exact Nat.le_refl _) h
          · exact hsb.extBut b o (neD (fpLt b hb)) e
          · rw [Array.toList_push]
            exact Vals.append vy (.cons r8 .nil)
  exact codeAny_compStart_list (loop _ rfl) (T.self _ 0 _ _ _ (T.keep 0 _ _ st2 fun b _ o e => old b o e) (loop _ rfl))

theorem pe_comp {X : Cx} {elt iter tg : Expr} {ifs : List Expr} {scope : Scope} {pos : Pos} {N : List Str} {fr : List (Option Nat)} {wi : TI} {g : TG} {tt : TT} {te : TE}
    (hcalm : X.calm = true) (S : CompScope X scope N fr) (hi : PI X tg iter wi)
    (hg : ∀ cl C s₂ H₂ fp pn, PG (blk X N scope cl C s₂ H₂ fp pn) tg g) (hgo : TgOk fr g) (ht : ∀ cl C s₂ H₂ fp pn, PTs (blk X N scope cl C s₂ H₂ fp pn) ifs tt) (he : ∀ cl C s₂ H₂ fp pn, PE (blk X N scope cl C s₂ H₂ fp pn) elt te)
    (hs : ∀ x, foldedSetIterable iter X.env x = pure x := by intro _; rfl) : PE X (.ListComp elt [⟨tg, iter, ifs, 0⟩] scope pos) (tComp fr wi g tt te) := by
  intro pins s σ H Q I h
  obtain ⟨cl, hclos, hclS, hclH⟩ := closureFor_ex (env := X.env) (scope := scope) fun y hy hf => I.ok.has y.1 (S.free y hy hf)
  rw [eval_ListComp]
  refine wpAny_comprehension_free (use := none) rfl hs hclos S.kind S.names (thn (hi pins s σ H _ I h) fun v s1 h1 => thn h1 fun itv s2 h2 => ?_)
  obtain ⟨it, fp, tn, J, H2, e, I2, T, st2, f2, W, w0, turn⟩ := h2
  subst e
  refine comp_block (RR := fun acc C => compPost (model X.prog X.w) X.A X.xe none (EP X pins σ Q) acc C) hcalm S hclS hclH (hg cl) hgo (ht cl) (he cl) I2 T st2 f2 W w0 turn fun C D s' B => ?_
  obtain ⟨ys, H', nD, hC, _, _, _, _, _, _, _, hI, q⟩ := B.ex
  obtain ⟨m, hn⟩ := hC
  exact ⟨m, hn, fun h' hs' => ⟨.ref D, _, hI h' hs', rfl, q⟩⟩

/-- name = a comprehension, where the stores are exchanged -/
theorem ps_setC {X : Cx} {elt iter tg : Expr} {ifs : List Expr} {scope : Scope} {pos spos py : Pos} {N : List Str} {fr : List (Option Nat)} {wi : TI} {g : TG} {tt : TT} {te : TE} {i : Nat} {y : Str}
    (hN : X.N.Nodup) (hy : X.N[i]? = some y) (hly : X.env.scope.names.lookup y = some .local)
    (hcalm : X.calm = true) (S : CompScope X scope N fr) (hi : PI X tg iter wi)
    (hg : ∀ cl C s₂ H₂ fp pn, PG (blk X N scope cl C s₂ H₂ fp pn) tg g) (hgo : TgOk fr g) (ht : ∀ cl C s₂ H₂ fp pn, PTs (blk X N scope cl C s₂ H₂ fp pn) ifs tt) (he : ∀ cl C s₂ H₂ fp pn, PE (blk X N scope cl C s₂ H₂ fp pn) elt te)
    (hsw : swapsWith (.ListComp elt [⟨tg, iter, ifs, 0⟩] scope pos) (some (.Name y py)) spos.line X.env = pure true := by rfl)
    (hs : ∀ x, foldedSetIterable iter X.env x = pure x := by intro _; rfl) : PS X (.Assign [.Name y py] (.ListComp elt [⟨tg, iter, ifs, 0⟩] scope pos) spos) (tAsg (tComp fr wi g tt te) (gName i)) := by
  intro pins s σ H D I h
  obtain ⟨cl, hclos, hclS, hclH⟩ := closureFor_ex (env := X.env) (scope := scope) fun y hy hf => I.ok.has y.1 (S.free y hy hf)
  rw [exec_Assign_Name_used _ _ _ _ hsw]
  refine wpAny_bind (wpAny_standAt (wpAny_bind ?_))
  show wpAny _ X.A (do let _ ← comprehension (.ListComp elt [⟨tg, iter, ifs, 0⟩] scope pos) scope X.env _ (newList []) false (eval iter X.env) (some (assign (.Name y py) X.env))) _ _ s
  refine wpAny_bind (wpAny_mono (wpAny_comprehension_free (use := some (assign (.Name y py) X.env)) (Q := fun _ s' => SP X pins D .next s') rfl hs hclos S.kind S.names
    (thn (hi pins s σ H _ I h) fun v s1 h1 => thn h1 fun itv s2 h2 => ?_)) (fun _ s' hq => wpAny_pure (wpAny_pure hq)) fun _ _ e => e)
  obtain ⟨it, fp, tn, J, H2, e, I2, T, st2, f2, W, w0, turn⟩ := h2
  subst e
  refine comp_block (Q := fun x H1 => gName i x σ H1 D.nx) (RR := fun acc C => compPost (model X.prog X.w) X.A X.xe (some (assign (.Name y py) X.env)) (fun _ s' => SP X pins D .next s') acc C) hcalm S hclS hclH (hg cl) hgo (ht cl) (he cl) I2 T st2 f2 W w0 turn fun C D' s' B => ?_
  obtain ⟨ys, H', nD, hC, hDC, hCL, hCc, hCp, hCs, hCf, hCn, hI, q⟩ := B.ex
  obtain ⟨m, hn⟩ := hC
  have I1 : Inv X pins σ (upd H' D' (.lst ys)) s' := by
    have := hI s'.heap (.refl ..)
    obtain ⟨hh, gg, dd, tt', os'⟩ := s'
    exact this
  show wpAny _ X.A (assign (.Name y py) X.env (.ref D')) _ _ _
  refine wpAny_assign_Name (store_ok2 I1 hN hy (.inl hly) (v := .ref D') rfl (fun s2 I3 ⟨a, sb, ha⟩ => ?_) (.inr hly))
  have hCa : C ≠ a := by
    rcases ha with rfl | ha
    · exact hCL
    · exact fun z => hCc y a ha z.symm
  refine ⟨m, hn.sameBut sb hCa, fun h3 hs3 => ?_⟩
  exact ⟨_, _, I3.turned (it := C) (t' := s2.toks) (fun b o hb e => hs3.extBut b o hb e) hCn hCL (.inr hCs) hCc hCp, q⟩
end L2

/-! DATA, and one rule for each operation whatever it is done to. -/
namespace L2
open PySem PySem.Spec PyProof.Rows

/-! ### data -/
mutual
def Dv (K : PySem.W.Frag) (H : Hp) : PyData → V → Prop
  | .none, v => v = .non
  | .bool b, v => v = .bl b
  | .int i, v => v = .int i
  | .str x, v => v = .str x
  | .list ds, v => ∃ a vs, v = .ref a ∧ SqL K H a vs ∧ Dvs K H ds vs
  | .tuple ds, v => ∃ a vs, v = .ref a ∧ SqT K H a vs ∧ Dvs K H ds vs
  | .dict _, _ => False
def Dvs (K : PySem.W.Frag) (H : Hp) : List PyData → List V → Prop
  | [], vs => vs = []
  | d :: ds, vs => ∃ v r, vs = v :: r ∧ Dv K H d v ∧ Dvs K H ds r
end

section
variable {K : PySem.W.Frag} {H H' : Hp}
theorem Dvs.length : ∀ {ds : List PyData} {vs : List V}, Dvs K H ds vs → vs.length = ds.length
  | [], _, h => by rw [Dvs] at h; subst h; rfl
  | d :: ds, _, h => by
    rw [Dvs] at h
    obtain ⟨v, r, rfl, _, h⟩ := h
    rw [List.length_cons, List.length_cons, Dvs.length h]
theorem Dvs.get : ∀ {ds : List PyData} {vs : List V} {i : Nat} {d : PyData}, Dvs K H ds vs → ds[i]? = some d → ∃ v, vs[i]? = some v ∧ Dv K H d v
  | [], _, _, _, _, e => by simp at e
  | d :: ds, _, 0, _, h, e => by
    rw [Dvs] at h
    obtain ⟨v, r, rfl, h, _⟩ := h
    cases e
    exact ⟨v, rfl, h⟩
  | d :: ds, _, i + 1, _, h, e => by
    rw [Dvs] at h
    obtain ⟨v, r, rfl, _, h⟩ := h
    exact Dvs.get (i := i) h (by simpa using e)
theorem Dvs.get' : ∀ {ds : List PyData} {vs : List V} {i : Nat} {v : V}, Dvs K H ds vs → vs[i]? = some v → ∃ d, ds[i]? = some d ∧ Dv K H d v
  | [], _, _, _, h, e => by rw [Dvs] at h; subst h; simp at e
  | d :: ds, _, 0, _, h, e => by
    rw [Dvs] at h
    obtain ⟨v, r, rfl, h, _⟩ := h
    cases e
    exact ⟨d, rfl, h⟩
  | d :: ds, _, i + 1, _, h, e => by
    rw [Dvs] at h
    obtain ⟨v, r, rfl, _, h⟩ := h
    exact Dvs.get' (i := i) h (by simpa using e)
theorem Dvs.append : ∀ {ds es : List PyData} {vs ws : List V}, Dvs K H ds vs → Dvs K H es ws → Dvs K H (ds ++ es) (vs ++ ws)
  | [], _, _, _, h, g => by rw [Dvs] at h; subst h; exact g
  | d :: ds, es, _, _, h, g => by
    rw [Dvs] at h
    obtain ⟨v, r, rfl, h1, h⟩ := h
    show Dvs K H (d :: (ds ++ es)) _
    rw [Dvs]
    exact ⟨v, r ++ _, rfl, h1, Dvs.append h g⟩
theorem dvs_nil : Dvs K H [] [] := by rw [Dvs]
theorem dvs_cons {d : PyData} {ds : List PyData} {v : V} {vs : List V} (h : Dv K H d v) (t : Dvs K H ds vs) : Dvs K H (d :: ds) (v :: vs) := by rw [Dvs]; exact ⟨v, vs, rfl, h, t⟩
theorem dvs_cons_iff {d : PyData} {ds : List PyData} {v : V} {vs : List V} : Dvs K H (d :: ds) (v :: vs) ↔ Dv K H d v ∧ Dvs K H ds vs := by
  rw [Dvs]
  constructor
  · rintro ⟨v', r, e, h⟩; cases e; exact h
  · intro h; exact ⟨v, vs, rfl, h⟩
theorem dv_none {v : V} : Dv K H .none v ↔ v = .non := by rw [Dv]
theorem dv_bool {b : Bool} {v : V} : Dv K H (.bool b) v ↔ v = .bl b := by rw [Dv]
theorem dv_int {i : Int} {v : V} : Dv K H (.int i) v ↔ v = .int i := by rw [Dv]
theorem dv_str {x : Str} {v : V} : Dv K H (.str x) v ↔ v = .str x := by rw [Dv]
theorem dv_list {ds : List PyData} {v : V} : Dv K H (.list ds) v ↔ ∃ a vs, v = .ref a ∧ SqL K H a vs ∧ Dvs K H ds vs := by rw [Dv]
theorem dv_tuple {ds : List PyData} {v : V} : Dv K H (.tuple ds) v ↔ ∃ a vs, v = .ref a ∧ SqT K H a vs ∧ Dvs K H ds vs := by rw [Dv]
/-- texts -/
def sDa (xs : List Str) : List PyData := xs.map .str
def strV (xs : List Str) : List V := xs.map .str
theorem dvs_sDa : ∀ {xs : List Str} {vs : List V}, Dvs K H (sDa xs) vs ↔ vs = strV xs
  | [], _ => by show Dvs K H [] _ ↔ _ = []; rw [Dvs]
  | x :: xs, vs => by
    show Dvs K H (.str x :: sDa xs) vs ↔ vs = V.str x :: strV xs
    rw [Dvs]
    constructor
    · rintro ⟨v, r, rfl, h1, h2⟩
      rw [dv_str.mp h1, dvs_sDa.mp h2]
    · rintro rfl
      exact ⟨_, _, rfl, dv_str.mpr rfl, dvs_sDa.mpr rfl⟩
end

/-- what stays: the tuples; all -/
def TupK (H H' : Hp) : Prop := (∀ b xs, H b = some (.tup xs) → H' b = some (.tup xs)) ∧ ∀ b o xs, H b = some (.frz o (.tup xs)) → H' b = some (.frz o (.tup xs))
theorem Same.tupK {H H' : Hp} (h : Same H H') : TupK H H' := ⟨fun b xs e => h b _ e, fun b o xs e => h b _ e⟩
theorem TupK.refl (H : Hp) : TupK H H := ⟨fun _ _ e => e, fun _ _ _ e => e⟩
theorem TupK.trans {H H1 H2 : Hp} (a : TupK H H1) (b : TupK H1 H2) : TupK H H2 := ⟨fun c xs e => b.1 c xs (a.1 c xs e), fun c o xs e => b.2 c o xs (a.2 c o xs e)⟩
theorem TupK.sqT {K : PySem.W.Frag} {H H' : Hp} {a : Addr} {xs : List V} (e : TupK H H') (h : SqT K H a xs) : SqT K H' a xs := by
  rcases h with (h | ⟨o, h⟩) | h
  · exact .inl (.inl (e.1 _ _ h))
  · exact .inl (.inr ⟨o, e.2 _ _ _ h⟩)
  · exact .inr h
theorem Same.sqT {K : PySem.W.Frag} {H H' : Hp} {a : Addr} {xs : List V} (e : Same H H') (h : SqT K H a xs) : SqT K H' a xs := e.tupK.sqT h
theorem Same.sqL {K : PySem.W.Frag} {H H' : Hp} {a : Addr} {xs : List V} (e : Same H H') (h : SqL K H a xs) : SqL K H' a xs := e.seq h
theorem Same.new {H : Hp} {p : Addr} (h : H p = none) (o : HO) : Same H (upd H p o) := fun b u q => by rw [upd_ne (ne_of_none q h)]; exact q
/-- all but the objects of a list of addresses -/
def But (ps : List Addr) (H H' : Hp) : Prop := ∀ b o, H b = some o → b ∉ ps → H' b = some o
theorem Same.but {H H' : Hp} (ps : List Addr) (h : Same H H') : But ps H H' := fun b o e _ => h b o e
theorem But.refl (ps : List Addr) (H : Hp) : But ps H H := fun _ _ e _ => e
theorem But.trans {ps : List Addr} {H H1 H2 : Hp} (a : But ps H H1) (b : But ps H1 H2) : But ps H H2 := fun c o e n => b c o (a c o e n) n
theorem But.upd {ps : List Addr} {H : Hp} {p : Addr} (h : p ∈ ps) (o : HO) : But ps H (upd H p o) := fun b u q n => by rw [upd_ne (by rintro rfl; exact n h)]; exact q
theorem But.mono {ps qs : List Addr} {H H' : Hp} (a : But ps H H') (h : ∀ b ∈ ps, b ∈ qs) : But qs H H' := fun c o e n => a c o e fun z => n (h c z)
mutual
/-- data without lists -/
def fix : PyData → Bool
  | .none => true | .bool _ => true | .int _ => true | .str _ => true
  | .list _ => false
  | .tuple ds => fixs ds
  | .dict _ => false
def fixs : List PyData → Bool
  | [] => true
  | d :: ds => fix d && fixs ds
end
mutual
theorem Dv.tupK {K : PySem.W.Frag} {H H' : Hp} (k : TupK H H') : ∀ (d : PyData) (v : V), fix d = true → Dv K H d v → Dv K H' d v
  | .none, _, _, h => dv_none.mpr (dv_none.mp h)
  | .bool _, _, _, h => dv_bool.mpr (dv_bool.mp h)
  | .int _, _, _, h => dv_int.mpr (dv_int.mp h)
  | .str _, _, _, h => dv_str.mpr (dv_str.mp h)
  | .list _, _, f, _ => by rw [fix] at f; cases f
  | .tuple ds, v, f, h => by
    rw [fix] at f
    obtain ⟨a, vs, rfl, hq, h⟩ := dv_tuple.mp h
    exact dv_tuple.mpr ⟨a, vs, rfl, k.sqT hq, Dvs.tupK k ds vs f h⟩
  | .dict _, _, f, _ => by rw [fix] at f; cases f
theorem Dvs.tupK {K : PySem.W.Frag} {H H' : Hp} (k : TupK H H') : ∀ (ds : List PyData) (vs : List V), fixs ds = true → Dvs K H ds vs → Dvs K H' ds vs
  | [], _, _, h => by rw [Dvs] at h ⊢; exact h
  | d :: ds, vs, f, h => by
    rw [fixs, Bool.and_eq_true] at f
    rw [Dvs] at h ⊢
    obtain ⟨v, r, e, h1, h2⟩ := h
    exact ⟨v, r, e, Dv.tupK k d v f.1 h1, Dvs.tupK k ds r f.2 h2⟩
end
mutual
theorem Dv.same {K : PySem.W.Frag} {H H' : Hp} (k : Same H H') : ∀ (d : PyData) (v : V), Dv K H d v → Dv K H' d v
  | .none, _, h => dv_none.mpr (dv_none.mp h)
  | .bool _, _, h => dv_bool.mpr (dv_bool.mp h)
  | .int _, _, h => dv_int.mpr (dv_int.mp h)
  | .str _, _, h => dv_str.mpr (dv_str.mp h)
  | .list ds, v, h => by
    obtain ⟨a, vs, rfl, hq, h⟩ := dv_list.mp h
    exact dv_list.mpr ⟨a, vs, rfl, k.sqL hq, Dvs.same k ds vs h⟩
  | .tuple ds, v, h => by
    obtain ⟨a, vs, rfl, hq, h⟩ := dv_tuple.mp h
    exact dv_tuple.mpr ⟨a, vs, rfl, k.sqT hq, Dvs.same k ds vs h⟩
  | .dict _, _, h => by rw [Dv] at h; exact h.elim
theorem Dvs.same {K : PySem.W.Frag} {H H' : Hp} (k : Same H H') : ∀ (ds : List PyData) (vs : List V), Dvs K H ds vs → Dvs K H' ds vs
  | [], _, h => by rw [Dvs] at h ⊢; exact h
  | d :: ds, vs, h => by
    rw [Dvs] at h ⊢
    obtain ⟨v, r, e, h1, h2⟩ := h
    exact ⟨v, r, e, Dv.same k d v h1, Dvs.same k ds r h2⟩
end

/-! ### the machine's own reading of data; == of data -/
mutual
theorem Dv.reads {X : Cx} {pins : List (Addr × Obj)} {σ : St} {H : Hp} {s : Shared} (I : Inv X pins σ H s) : ∀ (d : PyData) (v : V) (u : Value), Dv X.K H d v → RelV v u → ∃ as, Reads s.heap u d as
  | .none, _, _, h, r => by rw [dv_none.mp h] at r; cases r; exact ⟨_, .none⟩
  | .bool b, _, _, h, r => by rw [dv_bool.mp h] at r; cases r; exact ⟨_, .bool b⟩
  | .int i, _, _, h, r => by rw [dv_int.mp h] at r; obtain ⟨t, rfl⟩ := r; exact ⟨_, .int i t⟩
  | .str x, _, _, h, r => by rw [dv_str.mp h] at r; obtain ⟨t, rfl⟩ := r; exact ⟨_, .str x t⟩
  | .list ds, _, _, h, r => by
    obtain ⟨a, vs, rfl, hq, h⟩ := dv_list.mp h
    cases r
    obtain ⟨its, rv, pl, _⟩ := I.list hq
    obtain ⟨o, e, c, n, d⟩ := pl.isList
    obtain ⟨as, ra⟩ := Dvs.reads I ds vs its h rv
    exact ⟨_, .list e c d (by simpa using ra)⟩
  | .tuple ds, _, _, h, r => by
    obtain ⟨a, vs, rfl, hq, h⟩ := dv_tuple.mp h
    cases r
    obtain ⟨its, rv, pl, _⟩ := I.tuple hq
    obtain ⟨o, e, c, n, d⟩ := pl
    obtain ⟨as, ra⟩ := Dvs.reads I ds vs its h rv
    exact ⟨_, .tuple e c d (by simpa using ra)⟩
  | .dict _, _, _, h, _ => by rw [Dv] at h; exact h.elim
theorem Dvs.reads {X : Cx} {pins : List (Addr × Obj)} {σ : St} {H : Hp} {s : Shared} (I : Inv X pins σ H s) : ∀ (ds : List PyData) (vs : List V) (us : List Value), Dvs X.K H ds vs → Vals vs us → ∃ as, ReadsAll s.heap us ds as
  | [], _, _, h, r => by rw [Dvs] at h; subst h; cases r; exact ⟨_, .nil⟩
  | d :: ds, _, _, h, r => by
    rw [Dvs] at h
    obtain ⟨v, r', rfl, h1, h2⟩ := h
    cases r with
    | cons r1 r2 =>
      obtain ⟨as, a1⟩ := Dv.reads I d v _ h1 r1
      obtain ⟨bs, a2⟩ := Dvs.reads I ds r' _ h2 r2
      exact ⟨_, .cons a1 a2⟩
end
end L2

/-! == and != of data -/
namespace L2
open PySem PySem.Spec PyProof.Rows PySem.SeqAt

mutual
def nd : PyData → Bool
  | .none => true | .bool _ => true | .int _ => true | .str _ => true
  | .list ds => nds ds
  | .tuple ds => nds ds
  | .dict _ => false
def nds : List PyData → Bool
  | [] => true
  | d :: ds => nd d && nds ds
end
mutual
theorem Dv.nd {K : PySem.W.Frag} {H : Hp} : ∀ (d : PyData) (v : V), Dv K H d v → nd d = true
  | .none, _, _ => by rw [L2.nd]
  | .bool _, _, _ => by rw [L2.nd]
  | .int _, _, _ => by rw [L2.nd]
  | .str _, _, _ => by rw [L2.nd]
  | .list ds, _, h => by
    obtain ⟨a, vs, _, _, h⟩ := dv_list.mp h
    rw [L2.nd]; exact Dvs.nd ds vs h
  | .tuple ds, _, h => by
    obtain ⟨a, vs, _, _, h⟩ := dv_tuple.mp h
    rw [L2.nd]; exact Dvs.nd ds vs h
  | .dict _, _, h => by rw [Dv] at h; exact h.elim
theorem Dvs.nd {K : PySem.W.Frag} {H : Hp} : ∀ (ds : List PyData) (vs : List V), Dvs K H ds vs → nds ds = true
  | [], _, _ => by rw [nds]
  | d :: ds, vs, h => by
    rw [Dvs] at h
    obtain ⟨v, r, _, h1, h2⟩ := h
    rw [nds, Dv.nd d v h1, Dvs.nd ds r h2]; rfl
end
mutual
theorem one_read {h : Heap} : ∀ (d d' : PyData) (v : Value) (as as' : List Addr), nd d = true → Reads h v d as → Reads h v d' as' → d = d'
  | .none, _, _, _, _, _, r, q => by cases r; cases q; rfl
  | .bool _, _, _, _, _, _, r, q => by cases r; cases q; rfl
  | .int _, _, _, _, _, _, r, q => by cases r; cases q; rfl
  | .str _, _, _, _, _, _, r, q => by cases r; cases q; rfl
  | .dict _, _, _, _, _, n, _, _ => by rw [L2.nd] at n; cases n
  | .list xs, d', _, _, _, n, r, q => by
    rw [L2.nd] at n
    cases r with
    | list a1 a2 a3 a4 =>
      cases q with
      | list b1 b2 b3 b4 => rw [a1] at b1; cases b1; rw [a3] at b3; cases b3; rw [one_reads xs _ _ _ _ n a4 b4]
      | tuple b1 b2 b3 b4 => rw [a1] at b1; cases b1; rw [a2] at b2; exact absurd b2 (by simp)
      | dict b1 b2 => rw [a1] at b1; cases b1; rw [a2] at b2; exact absurd b2 (by simp)
  | .tuple xs, d', _, _, _, n, r, q => by
    rw [L2.nd] at n
    cases r with
    | tuple a1 a2 a3 a4 =>
      cases q with
      | tuple b1 b2 b3 b4 => rw [a1] at b1; cases b1; rw [a3] at b3; cases b3; rw [one_reads xs _ _ _ _ n a4 b4]
      | list b1 b2 b3 b4 => rw [a1] at b1; cases b1; rw [a2] at b2; exact absurd b2 (by simp)
      | dict b1 b2 => rw [a1] at b1; cases b1; rw [a2] at b2; exact absurd b2 (by simp)
theorem one_reads {h : Heap} : ∀ (xs ys : List PyData) (vs : List Value) (as as' : List Addr), nds xs = true → ReadsAll h vs xs as → ReadsAll h vs ys as' → xs = ys
  | [], _, _, _, _, _, r, q => by cases r; cases q; rfl
  | x :: xs, _, _, _, _, n, r, q => by
    rw [nds, Bool.and_eq_true] at n
    cases r with
    | cons r1 r2 =>
      cases q with
      | cons q1 q2 => rw [one_read x _ _ _ _ n.1 r1 q1, one_reads xs _ _ _ _ n.2 r2 q2]
end
mutual
theorem eqv_self : ∀ d : PyData, nd d = true → PyData.eqv d d = true
  | .none, _ => rfl
  | .bool b, _ => by simp [PyData.eqv]
  | .int i, _ => by simp [PyData.eqv]
  | .str x, _ => by simp [PyData.eqv]
  | .list xs, h => by rw [PyData.eqv]; rw [L2.nd] at h; exact eqvs_self xs h
  | .tuple xs, h => by rw [PyData.eqv]; rw [L2.nd] at h; exact eqvs_self xs h
  | .dict _, h => by rw [L2.nd] at h; cases h
theorem eqvs_self : ∀ xs : List PyData, nds xs = true → PyData.eqvAll xs xs = true
  | [], _ => rfl
  | x :: xs, h => by
    rw [nds, Bool.and_eq_true] at h
    rw [PyData.eqvAll, eqv_self x h.1, eqvs_self xs h.2]; rfl
end
theorem nds_get : ∀ {xs : List PyData} {j : Nat}, nds xs = true → nd (xs.getD j .none) = true
  | [], _, _ => by simp [L2.nd]
  | x :: xs, 0, h => by rw [nds, Bool.and_eq_true] at h; simpa using h.1
  | x :: xs, j + 1, h => by
    rw [nds, Bool.and_eq_true] at h
    have := nds_get (xs := xs) (j := j) h.2
    simpa using this
theorem readsAll_len {h : Heap} : ∀ {xs : List PyData} {vs : List Value} {as : List Addr}, ReadsAll h vs xs as → vs.length = xs.length
  | [], _, _, r => by cases r; rfl
  | _ :: xs, _, _, r => by
    cases r with
    | cons _ r' => rw [List.length_cons, List.length_cons, readsAll_len r']
theorem depth_le : ∀ {xs : List PyData} {x : PyData}, x ∈ xs → x.depth ≤ PyData.depthAll xs
  | y :: ys, x, h => by
    rcases List.mem_cons.mp h with rfl | h
    · rw [PyData.depthAll]; exact Nat.le_max_left _ _
    · rw [PyData.depthAll]; exact Nat.le_trans (depth_le h) (Nat.le_max_right _ _)

mutual
theorem eqAt_own : ∀ (da db : PyData) (A : Around) (s : Shared) (a b : Value) (as bs : List Addr), Reads s.heap a da as → Reads s.heap b db bs → nd da = true → nd db = true → A.units + min da.depth db.depth < cLine → EqAt A s a b (PyData.eqv da db)
  | .none, db, A, s, _, _, _, _, ra, rb, _, hb, hu => by
    cases ra
    cases rb with
    | none => exact EqAt.same _
    | bool y => exact EqAt.none_bool y
    | int y u => exact EqAt.none_int y u
    | str y u => exact EqAt.none_str y u
    | list k1 k2 k3 k4 => exact EqAt.none_list ⟨_, k1, k2, _, k3⟩ (room_here hu)
    | tuple k1 k2 k3 k4 => exact EqAt.none_tuple ⟨_, k1, k2, _, k3⟩ (room_here hu)
    | dict => rw [L2.nd] at hb; cases hb
  | .bool x, db, A, s, _, _, _, _, ra, rb, _, hb, hu => by
    cases ra
    cases rb with
    | none => exact EqAt.bool_none x
    | bool y => exact EqAt.bool_bool x y
    | int y u => exact EqAt.bool_int x y u
    | str y u => exact EqAt.bool_str x y u
    | list k1 k2 k3 k4 => exact EqAt.bool_list x ⟨_, k1, k2, _, k3⟩ (room_here hu)
    | tuple k1 k2 k3 k4 => exact EqAt.bool_tuple x ⟨_, k1, k2, _, k3⟩ (room_here hu)
    | dict => rw [L2.nd] at hb; cases hb
  | .int x, db, A, s, _, _, _, _, ra, rb, _, hb, hu => by
    cases ra
    cases rb with
    | none => exact EqAt.int_none x _
    | bool y => exact EqAt.int_bool x _ y
    | int y u => exact EqAt.int_int x _ y u
    | str y u => exact EqAt.int_str x _ y u
    | list k1 k2 k3 k4 => exact EqAt.int_list x _ ⟨_, k1, k2, _, k3⟩ (room_here hu)
    | tuple k1 k2 k3 k4 => exact EqAt.int_tuple x _ ⟨_, k1, k2, _, k3⟩ (room_here hu)
    | dict => rw [L2.nd] at hb; cases hb
  | .str x, db, A, s, _, _, _, _, ra, rb, _, hb, hu => by
    cases ra
    cases rb with
    | none => exact EqAt.str_none x _
    | bool y => exact EqAt.str_bool x _ y
    | int y u => exact EqAt.str_int x _ y u
    | str y u => exact EqAt.str_str x _ y u
    | list k1 k2 k3 k4 => exact EqAt.str_list x _ ⟨_, k1, k2, _, k3⟩ (room_here hu)
    | tuple k1 k2 k3 k4 => exact EqAt.str_tuple x _ ⟨_, k1, k2, _, k3⟩ (room_here hu)
    | dict => rw [L2.nd] at hb; cases hb
  | .list xs, db, A, s, _, _, _, _, ra, rb, ha, hb, hu => by
    have ra0 := ra
    have rb0 := rb
    cases ra with
    | @list l o1 vs1 n1 xs as h1 h2 h3 h4 =>
      cases rb with
      | none => exact EqAt.list_none ⟨_, h1, h2, _, h3⟩ (room_here hu)
      | bool y => exact EqAt.list_bool y ⟨_, h1, h2, _, h3⟩ (room_here hu)
      | int y u => exact EqAt.list_int y u ⟨_, h1, h2, _, h3⟩ (room_here hu)
      | str y u => exact EqAt.list_str y u ⟨_, h1, h2, _, h3⟩ (room_here hu)
      | tuple k1 k2 k3 k4 => exact EqAt.list_tuple ⟨_, h1, h2, _, h3⟩ ⟨_, k1, k2, _, k3⟩ (room_here hu)
      | @list b o vs2 n2 ys bs k1 k2 k3 k4 =>
        by_cases e : l = b
        · subst e
          rw [one_read _ _ _ _ _ ha ra0 rb0, eqv_self _ hb]
          exact EqAt.same _
        · refine EqAt.of_refs e ?_
          have l1 := readsAll_len h4
          have l2 := readsAll_len k4
          rw [L2.nd] at ha hb
          by_cases hz : xs.length = ys.length
          · have := RcAt.lists (A := A) (s := s) (e := pairEq xs ys) ⟨_, h1, h2, _, h3⟩ ⟨_, k1, k2, _, k3⟩ (by simp at l1 l2; omega) (room_here hu) (fun j h1 h2 => by have q := eqAt_items xs ys A.in1 s _ _ _ _ h4 k4 ha hb (room_in (by rw [PyData.depth, PyData.depth] at hu; exact hu)) j (by simpa using h1) (by simpa using h2); rw [Array.getElem_toList, Array.getElem_toList] at q; exact q)
            rw [show PyData.eqv (.list xs) (.list ys) = PyData.eqvAll xs ys by rw [PyData.eqv], ← eqvAll_same_length hz]
            have e1 : vs1.size = xs.length := by simpa using l1
            rw [e1] at this
            exact this
          · rw [show PyData.eqv (.list xs) (.list ys) = PyData.eqvAll xs ys by rw [PyData.eqv], eqvAll_other_length hz]
            exact RcAt.lists_lengths ⟨_, h1, h2, _, h3⟩ ⟨_, k1, k2, _, k3⟩ (by simp at l1 l2; simp; omega) (room_here hu)
      | dict => rw [L2.nd] at hb; cases hb
  | .tuple xs, db, A, s, _, _, _, _, ra, rb, ha, hb, hu => by
    have ra0 := ra
    have rb0 := rb
    cases ra with
    | @tuple l o1 vs1 n1 xs as h1 h2 h3 h4 =>
      cases rb with
      | none => exact EqAt.tuple_none ⟨_, h1, h2, _, h3⟩ (room_here hu)
      | bool y => exact EqAt.tuple_bool y ⟨_, h1, h2, _, h3⟩ (room_here hu)
      | int y u => exact EqAt.tuple_int y u ⟨_, h1, h2, _, h3⟩ (room_here hu)
      | str y u => exact EqAt.tuple_str y u ⟨_, h1, h2, _, h3⟩ (room_here hu)
      | list k1 k2 k3 k4 => exact EqAt.tuple_list ⟨_, h1, h2, _, h3⟩ ⟨_, k1, k2, _, k3⟩ (room_here hu)
      | @tuple b o vs2 n2 ys bs k1 k2 k3 k4 =>
        by_cases e : l = b
        · subst e
          rw [one_read _ _ _ _ _ ha ra0 rb0, eqv_self _ hb]
          exact EqAt.same _
        · refine EqAt.of_refs e ?_
          have l1 := readsAll_len h4
          have l2 := readsAll_len k4
          rw [L2.nd] at ha hb
          have := RcAt.tuples (A := A) (s := s) (e := pairEq xs ys) ⟨_, h1, h2, _, h3⟩ ⟨_, k1, k2, _, k3⟩ (room_here hu) (fun j h1 h2 => by have q := eqAt_items xs ys A.in1 s _ _ _ _ h4 k4 ha hb (room_in (by rw [PyData.depth, PyData.depth] at hu; exact hu)) j (by simpa using h1) (by simpa using h2); rw [Array.getElem_toList, Array.getElem_toList] at q; exact q)
          rw [show PyData.eqv (.tuple xs) (.tuple ys) = PyData.eqvAll xs ys by rw [PyData.eqv], ← eqvAll_eq xs ys]
          have e1 : vs1.size = xs.length := by simpa using l1
          have e2 : vs2.size = ys.length := by simpa using l2
          rw [e1, e2] at this
          exact this
      | dict => rw [L2.nd] at hb; cases hb
  | .dict _, _, _, _, _, _, _, _, _, _, ha, _, _ => by rw [L2.nd] at ha; cases ha
theorem eqAt_items : ∀ (xs ys : List PyData) (A : Around) (s : Shared) (us ws : List Value) (as bs : List Addr), ReadsAll s.heap us xs as → ReadsAll s.heap ws ys bs → nds xs = true → nds ys = true → A.units + min (PyData.depthAll xs) (PyData.depthAll ys) < cLine →
    ∀ j (h1 : j < us.length) (h2 : j < ws.length), EqAt A s us[j] ws[j] (pairEq xs ys j)
  | [], _, _, _, _, _, _, _, r, _, _, _, _ => by cases r; intro j h1; simp at h1
  | x :: xs, ys, A, s, _, ws, _, _, r, q, ha, hb, hu => by
    cases r with
    | @cons u us d ds as1 as2 r1 r2 =>
      cases q with
      | nil => intro j h1 h2; simp at h2
      | @cons w ws y ys bs1 bs2 q1 q2 =>
        rw [nds, Bool.and_eq_true] at ha hb
        rw [PyData.depthAll, PyData.depthAll] at hu
        intro j h1 h2
        cases j with
        | zero => exact eqAt_own x y A s u w _ _ r1 q1 ha.1 hb.1 (room_head hu)
        | succ j =>
          exact eqAt_items xs ys A s us ws _ _ r2 q2 ha.2 hb.2 (room_tail hu) j (by simpa using h1) (by simpa using h2)
end
theorem rc_own {da db : PyData} {A : Around} {s : Shared} {a b : Value} {as bs : List Addr} (ra : Reads s.heap a da as) (rb : Reads s.heap b db bs) (ha : nd da = true) (hb : nd db = true) (hu : A.units + min da.depth db.depth < cLine) : RcAt A s a b (PyData.eqv da db) := by
  cases ra with
  | none =>
    cases rb with
    | none => exact RcAt.none_none
    | bool y => exact RcAt.none_bool y
    | int y u => exact RcAt.none_int y u
    | str y u => exact RcAt.none_str y u
    | @list l2 o2 ws n2 ys bs k1 k2 k3 k4 => exact RcAt.none_list ⟨_, k1, k2, _, k3⟩ (room_here hu)
    | @tuple l2 o2 ws n2 ys bs k1 k2 k3 k4 => exact RcAt.none_tuple ⟨_, k1, k2, _, k3⟩ (room_here hu)
    | dict => rw [L2.nd] at hb; cases hb
  | bool x =>
    cases rb with
    | none => exact RcAt.bool_none x
    | bool y => exact RcAt.bool_bool x y
    | int y u => exact RcAt.bool_int x y u
    | str y u => exact RcAt.bool_str x y u
    | @list l2 o2 ws n2 ys bs k1 k2 k3 k4 => exact RcAt.bool_list x ⟨_, k1, k2, _, k3⟩ (room_here hu)
    | @tuple l2 o2 ws n2 ys bs k1 k2 k3 k4 => exact RcAt.bool_tuple x ⟨_, k1, k2, _, k3⟩ (room_here hu)
    | dict => rw [L2.nd] at hb; cases hb
  | int x t =>
    cases rb with
    | none => exact RcAt.int_none x t
    | bool y => exact RcAt.int_bool x t y
    | int y u => exact RcAt.int_int x t y u
    | str y u => exact RcAt.int_str x t y u
    | @list l2 o2 ws n2 ys bs k1 k2 k3 k4 => exact RcAt.int_list x t ⟨_, k1, k2, _, k3⟩ (room_here hu)
    | @tuple l2 o2 ws n2 ys bs k1 k2 k3 k4 => exact RcAt.int_tuple x t ⟨_, k1, k2, _, k3⟩ (room_here hu)
    | dict => rw [L2.nd] at hb; cases hb
  | str x t =>
    cases rb with
    | none => exact RcAt.str_none x t
    | bool y => exact RcAt.str_bool x t y
    | int y u => exact RcAt.str_int x t y u
    | str y u => exact RcAt.str_str x t y u
    | @list l2 o2 ws n2 ys bs k1 k2 k3 k4 => exact RcAt.str_list x t ⟨_, k1, k2, _, k3⟩ (room_here hu)
    | @tuple l2 o2 ws n2 ys bs k1 k2 k3 k4 => exact RcAt.str_tuple x t ⟨_, k1, k2, _, k3⟩ (room_here hu)
    | dict => rw [L2.nd] at hb; cases hb
  | @list l o vs n xs as h1 h2 h3 h4 =>
    cases rb with
    | none => exact RcAt.list_none ⟨_, h1, h2, _, h3⟩ (room_here hu)
    | bool y => exact RcAt.list_bool y ⟨_, h1, h2, _, h3⟩ (room_here hu)
    | int y u => exact RcAt.list_int y u ⟨_, h1, h2, _, h3⟩ (room_here hu)
    | str y u => exact RcAt.list_str y u ⟨_, h1, h2, _, h3⟩ (room_here hu)
    | @list l2 o2 ws n2 ys bs k1 k2 k3 k4 =>
      have l1 : vs.size = xs.length := by simpa using readsAll_len h4
      have l2 : ws.size = ys.length := by simpa using readsAll_len k4
      rw [L2.nd] at ha hb
      rw [PyData.depth, PyData.depth] at hu
      have hi : ∀ j (h1 : j < vs.size) (h2 : j < ws.size), EqAt A.in1 s vs[j] ws[j] (pairEq xs ys j) := fun j h1 h2 => by
        have q := eqAt_items xs ys A.in1 s _ _ _ _ h4 k4 ha hb (room_in hu) j (by simpa using h1) (by simpa using h2)
        rw [Array.getElem_toList, Array.getElem_toList] at q
        exact q
      have hu' : A.units < cLine := room_here hu
      rw [show PyData.eqv (.list xs) (.list ys) = PyData.eqvAll xs ys by rw [PyData.eqv]]
      by_cases hz : xs.length = ys.length
      · have q := RcAt.lists (A := A) (s := s) (e := pairEq xs ys) ⟨_, h1, h2, _, h3⟩ ⟨_, k1, k2, _, k3⟩ (by omega) hu' hi
        rw [l1, eqvAll_same_length hz] at q
        exact q
      · rw [eqvAll_other_length hz]
        exact RcAt.lists_lengths ⟨_, h1, h2, _, h3⟩ ⟨_, k1, k2, _, k3⟩ (by simp; omega) hu'
    | @tuple l2 o2 ws n2 ys bs k1 k2 k3 k4 => exact RcAt.list_tuple ⟨_, h1, h2, _, h3⟩ ⟨_, k1, k2, _, k3⟩ (room_here hu)
    | dict => rw [L2.nd] at hb; cases hb
  | @tuple l o vs n xs as h1 h2 h3 h4 =>
    cases rb with
    | none => exact RcAt.tuple_none ⟨_, h1, h2, _, h3⟩ (room_here hu)
    | bool y => exact RcAt.tuple_bool y ⟨_, h1, h2, _, h3⟩ (room_here hu)
    | int y u => exact RcAt.tuple_int y u ⟨_, h1, h2, _, h3⟩ (room_here hu)
    | str y u => exact RcAt.tuple_str y u ⟨_, h1, h2, _, h3⟩ (room_here hu)
    | @list l2 o2 ws n2 ys bs k1 k2 k3 k4 => exact RcAt.tuple_list ⟨_, h1, h2, _, h3⟩ ⟨_, k1, k2, _, k3⟩ (room_here hu)
    | @tuple l2 o2 ws n2 ys bs k1 k2 k3 k4 =>
      have l1 : vs.size = xs.length := by simpa using readsAll_len h4
      have l2 : ws.size = ys.length := by simpa using readsAll_len k4
      rw [L2.nd] at ha hb
      rw [PyData.depth, PyData.depth] at hu
      have hi : ∀ j (h1 : j < vs.size) (h2 : j < ws.size), EqAt A.in1 s vs[j] ws[j] (pairEq xs ys j) := fun j h1 h2 => by
        have q := eqAt_items xs ys A.in1 s _ _ _ _ h4 k4 ha hb (room_in hu) j (by simpa using h1) (by simpa using h2)
        rw [Array.getElem_toList, Array.getElem_toList] at q
        exact q
      have hu' : A.units < cLine := room_here hu
      rw [show PyData.eqv (.tuple xs) (.tuple ys) = PyData.eqvAll xs ys by rw [PyData.eqv]]
      have q := RcAt.tuples (A := A) (s := s) (e := pairEq xs ys) ⟨_, h1, h2, _, h3⟩ ⟨_, k1, k2, _, k3⟩ hu' hi
      rw [l1, l2, eqvAll_eq xs ys] at q
      exact q
    | dict => rw [L2.nd] at hb; cases hb
  | dict => rw [L2.nd] at ha; cases ha
theorem rcNe_own {da db : PyData} {A : Around} {s : Shared} {a b : Value} {as bs : List Addr} (ra : Reads s.heap a da as) (rb : Reads s.heap b db bs) (ha : nd da = true) (hb : nd db = true) (hu : A.units + min da.depth db.depth < cLine) : RcNeAt A s a b (!PyData.eqv da db) := by
  cases ra with
  | none =>
    cases rb with
    | none => exact RcNeAt.none_none
    | bool y => exact RcNeAt.none_bool y
    | int y u => exact RcNeAt.none_int y u
    | str y u => exact RcNeAt.none_str y u
    | @list l2 o2 ws n2 ys bs k1 k2 k3 k4 => exact RcNeAt.none_list ⟨_, k1, k2, _, k3⟩ (room_here hu)
    | @tuple l2 o2 ws n2 ys bs k1 k2 k3 k4 => exact RcNeAt.none_tuple ⟨_, k1, k2, _, k3⟩ (room_here hu)
    | dict => rw [L2.nd] at hb; cases hb
  | bool x =>
    cases rb with
    | none => exact RcNeAt.bool_none x
    | bool y => exact RcNeAt.bool_bool x y
    | int y u => exact RcNeAt.bool_int x y u
    | str y u => exact RcNeAt.bool_str x y u
    | @list l2 o2 ws n2 ys bs k1 k2 k3 k4 => exact RcNeAt.bool_list x ⟨_, k1, k2, _, k3⟩ (room_here hu)
    | @tuple l2 o2 ws n2 ys bs k1 k2 k3 k4 => exact RcNeAt.bool_tuple x ⟨_, k1, k2, _, k3⟩ (room_here hu)
    | dict => rw [L2.nd] at hb; cases hb
  | int x t =>
    cases rb with
    | none => exact RcNeAt.int_none x t
    | bool y => exact RcNeAt.int_bool x t y
    | int y u => exact RcNeAt.int_int x t y u
    | str y u => exact RcNeAt.int_str x t y u
    | @list l2 o2 ws n2 ys bs k1 k2 k3 k4 => exact RcNeAt.int_list x t ⟨_, k1, k2, _, k3⟩ (room_here hu)
    | @tuple l2 o2 ws n2 ys bs k1 k2 k3 k4 => exact RcNeAt.int_tuple x t ⟨_, k1, k2, _, k3⟩ (room_here hu)
    | dict => rw [L2.nd] at hb; cases hb
  | str x t =>
    cases rb with
    | none => exact RcNeAt.str_none x t
    | bool y => exact RcNeAt.str_bool x t y
    | int y u => exact RcNeAt.str_int x t y u
    | str y u => exact RcNeAt.str_str x t y u
    | @list l2 o2 ws n2 ys bs k1 k2 k3 k4 => exact RcNeAt.str_list x t ⟨_, k1, k2, _, k3⟩ (room_here hu)
    | @tuple l2 o2 ws n2 ys bs k1 k2 k3 k4 => exact RcNeAt.str_tuple x t ⟨_, k1, k2, _, k3⟩ (room_here hu)
    | dict => rw [L2.nd] at hb; cases hb
  | @list l o vs n xs as h1 h2 h3 h4 =>
    cases rb with
    | none => exact RcNeAt.list_none ⟨_, h1, h2, _, h3⟩ (room_here hu)
    | bool y => exact RcNeAt.list_bool y ⟨_, h1, h2, _, h3⟩ (room_here hu)
    | int y u => exact RcNeAt.list_int y u ⟨_, h1, h2, _, h3⟩ (room_here hu)
    | str y u => exact RcNeAt.list_str y u ⟨_, h1, h2, _, h3⟩ (room_here hu)
    | @list l2 o2 ws n2 ys bs k1 k2 k3 k4 =>
      have l1 : vs.size = xs.length := by simpa using readsAll_len h4
      have l2 : ws.size = ys.length := by simpa using readsAll_len k4
      rw [L2.nd] at ha hb
      rw [PyData.depth, PyData.depth] at hu
      have hi : ∀ j (h1 : j < vs.size) (h2 : j < ws.size), EqAt A.in1 s vs[j] ws[j] (pairEq xs ys j) := fun j h1 h2 => by
        have q := eqAt_items xs ys A.in1 s _ _ _ _ h4 k4 ha hb (room_in hu) j (by simpa using h1) (by simpa using h2)
        rw [Array.getElem_toList, Array.getElem_toList] at q
        exact q
      have hu' : A.units < cLine := room_here hu
      rw [show PyData.eqv (.list xs) (.list ys) = PyData.eqvAll xs ys by rw [PyData.eqv]]
      by_cases hz : xs.length = ys.length
      · have q := RcNeAt.lists (A := A) (s := s) (e := pairEq xs ys) ⟨_, h1, h2, _, h3⟩ ⟨_, k1, k2, _, k3⟩ (by omega) hu' hi
        rw [l1, eqvAll_same_length hz] at q
        exact q
      · rw [eqvAll_other_length hz]
        exact RcNeAt.lists_lengths ⟨_, h1, h2, _, h3⟩ ⟨_, k1, k2, _, k3⟩ (by simp; omega) hu'
    | @tuple l2 o2 ws n2 ys bs k1 k2 k3 k4 => exact RcNeAt.list_tuple ⟨_, h1, h2, _, h3⟩ ⟨_, k1, k2, _, k3⟩ (room_here hu)
    | dict => rw [L2.nd] at hb; cases hb
  | @tuple l o vs n xs as h1 h2 h3 h4 =>
    cases rb with
    | none => exact RcNeAt.tuple_none ⟨_, h1, h2, _, h3⟩ (room_here hu)
    | bool y => exact RcNeAt.tuple_bool y ⟨_, h1, h2, _, h3⟩ (room_here hu)
    | int y u => exact RcNeAt.tuple_int y u ⟨_, h1, h2, _, h3⟩ (room_here hu)
    | str y u => exact RcNeAt.tuple_str y u ⟨_, h1, h2, _, h3⟩ (room_here hu)
    | @list l2 o2 ws n2 ys bs k1 k2 k3 k4 => exact RcNeAt.tuple_list ⟨_, h1, h2, _, h3⟩ ⟨_, k1, k2, _, k3⟩ (room_here hu)
    | @tuple l2 o2 ws n2 ys bs k1 k2 k3 k4 =>
      have l1 : vs.size = xs.length := by simpa using readsAll_len h4
      have l2 : ws.size = ys.length := by simpa using readsAll_len k4
      rw [L2.nd] at ha hb
      rw [PyData.depth, PyData.depth] at hu
      have hi : ∀ j (h1 : j < vs.size) (h2 : j < ws.size), EqAt A.in1 s vs[j] ws[j] (pairEq xs ys j) := fun j h1 h2 => by
        have q := eqAt_items xs ys A.in1 s _ _ _ _ h4 k4 ha hb (room_in hu) j (by simpa using h1) (by simpa using h2)
        rw [Array.getElem_toList, Array.getElem_toList] at q
        exact q
      have hu' : A.units < cLine := room_here hu
      rw [show PyData.eqv (.tuple xs) (.tuple ys) = PyData.eqvAll xs ys by rw [PyData.eqv]]
      have q := RcNeAt.tuples (A := A) (s := s) (e := pairEq xs ys) ⟨_, h1, h2, _, h3⟩ ⟨_, k1, k2, _, k3⟩ hu' hi
      rw [l1, l2, eqvAll_eq xs ys] at q
      exact q
    | dict => rw [L2.nd] at hb; cases hb
  | dict => rw [L2.nd] at ha; cases ha
end L2

/-! one rule for each operation, and the steps over readings -/
namespace L2
open PySem PySem.Spec PyProof.Rows PySem.SeqAt

section
variable {X : Cx}

/-! ### == and != -/
def rEqA (K : PySem.W.Frag) : R2 := fun x y H Q => rEq x y H Q ∨ ∃ d e, Dv K H d x ∧ Dv K H e y ∧ d.depth ≤ 64 ∧ Q (.bl (PyData.eqv d e)) H
def rNeA (K : PySem.W.Frag) : R2 := fun x y H Q => rNe x y H Q ∨ ∃ d e, Dv K H d x ∧ Dv K H e y ∧ d.depth ≤ 64 ∧ Q (.bl (!PyData.eqv d e)) H
theorem op_eqA (hu : X.A.units + 64 < cLine) : OpR X (compareOp .Eq) (rEqA X.K) := by
  refine op_eq.or ?_
  intro pins s σ H x y v u Q I rx ry h
  obtain ⟨d, e, hx, hy, hz, q⟩ := h
  obtain ⟨as, ra⟩ := Dv.reads I d x v hx rx
  obtain ⟨bs, rb⟩ := Dv.reads I e y u hy ry
  have hroom : X.A.units + min d.depth e.depth < cLine := Nat.lt_of_le_of_lt (Nat.add_le_add_left (Nat.le_trans (Nat.min_le_left _ _) hz) _) hu
  exact rc_own ra rb (Dv.nd d x hx) (Dv.nd e y hy) hroom X.prog X.w X.xe _ ⟨.bl _, H, I, rfl, q⟩
theorem op_neA (hu : X.A.units + 64 < cLine) : OpR X (compareOp .NotEq) (rNeA X.K) := by
  refine op_ne.or ?_
  intro pins s σ H x y v u Q I rx ry h
  obtain ⟨d, e, hx, hy, hz, q⟩ := h
  obtain ⟨as, ra⟩ := Dv.reads I d x v hx rx
  obtain ⟨bs, rb⟩ := Dv.reads I e y u hy ry
  have hroom : X.A.units + min d.depth e.depth < cLine := Nat.lt_of_le_of_lt (Nat.add_le_add_left (Nat.le_trans (Nat.min_le_left _ _) hz) _) hu
  exact rcNe_own ra rb (Dv.nd d x hx) (Dv.nd e y hy) hroom X.prog X.w X.xe _ ⟨.bl _, H, I, rfl, q⟩

/-! ### + and * -/
def rAddA (K : PySem.W.Frag) : R2 := fun x y H Q => rI0 (fun i j => .int (i + j)) x y H Q ∨ (∃ i j, x = .str i ∧ y = .str j ∧ i.length + j.length ≤ sizeLine ∧ Q (.str (i ++ j)) H) ∨ rCat x y H Q ∨ rCatT K x y H Q
theorem op_addA : OpR X (binaryOp .Add) (rAddA X.K) := op_add.or (op_add_str.or (op_cat.or op_catT))
def rMulS : R2 := fun x y H Q => ∃ z n, x = .str z ∧ y = .int n ∧ 0 ≤ n ∧ n ≤ 1000 ∧ z.length ≤ 1000 ∧ Q (.str (PySem.Txt.mul z n)) H
theorem op_mul_str : OpR X (binaryOp .Mult) rMulS := by
  intro pins s σ H x y v u Q I rx ry h
  obtain ⟨z, n, rfl, rfl, h0, h1, h2, q⟩ := h
  obtain ⟨t, rfl⟩ := rx
  obtain ⟨t', rfl⟩ := ry
  refine wpAny_with_toks (n := 1) I.tk (SB.mul ⟨?_, fun hn _ => ?_, fun hn _ => ?_⟩ fun t' k ht => ⟨.str _, H, I.tok _ ht, ⟨_, rfl⟩, q⟩)
  · rw [decide_eq_false (by omega), decide_eq_false (by omega)]; rfl
  · have e1 : (2 ^ 63 - 1 : Int) / n ≥ (2 ^ 63 - 1) / 1000 := by
      have hp : (0 : Int) < n := by omega
      apply Int.le_ediv_of_mul_le hp
      have : (2 ^ 63 - 1 : Int) / 1000 * n ≤ (2 ^ 63 - 1) / 1000 * 1000 := Int.mul_le_mul_of_nonneg_left h1 (by decide)
      have e : (2 ^ 63 - 1 : Int) / 1000 * 1000 ≤ 2 ^ 63 - 1 := by decide
      omega
    have e2 : (2 ^ 63 - 1 : Int) / 1000 ≥ 1000 := by decide
    omega
  · have : z.length * n.toNat ≤ 1000 * 1000 := Nat.mul_le_mul h2 (by omega)
    have hs : sizeLine = 16777216 := sizeLine_eq
    unfold Builtin.Str.tooLong
    exact decide_eq_false (by omega)
def rMulA : R2 := fun x y H Q => rI CMul (fun i j => .int (i * j)) x y H Q ∨ rMulS x y H Q ∨ rRep x y H Q
theorem op_mulA : OpR X (binaryOp .Mult) rMulA := op_mul.or (op_mul_str.or op_rep)

/-! ### <, <= .. -/
def rLtS : R2 := fun x y H Q => ∃ i j : Str, x = .str i ∧ y = .str j ∧ Q (.bl (decide (i.cps.toList < j.cps.toList))) H
def rLeS : R2 := fun x y H Q => ∃ i j : Str, x = .str i ∧ y = .str j ∧ Q (.bl (!decide (j.cps.toList < i.cps.toList))) H
def rGtS : R2 := fun x y H Q => ∃ i j : Str, x = .str i ∧ y = .str j ∧ Q (.bl (decide (j.cps.toList < i.cps.toList))) H
def rGeS : R2 := fun x y H Q => ∃ i j : Str, x = .str i ∧ y = .str j ∧ Q (.bl (!decide (i.cps.toList < j.cps.toList))) H
theorem op_le_str : OpR X (compareOp .LtE) rLeS := by
  intro pins s σ H x y v u Q I rx ry h
  obtain ⟨i, j, rfl, rfl, q⟩ := h
  obtain ⟨t, rfl⟩ := rx
  obtain ⟨t', rfl⟩ := ry
  exact PySem.P.le_str ⟨.bl _, H, I, rfl, q⟩
theorem op_gt_str : OpR X (compareOp .Gt) rGtS := by
  intro pins s σ H x y v u Q I rx ry h
  obtain ⟨i, j, rfl, rfl, q⟩ := h
  obtain ⟨t, rfl⟩ := rx
  obtain ⟨t', rfl⟩ := ry
  exact PySem.P.gt_str ⟨.bl _, H, I, rfl, q⟩
theorem op_ge_str : OpR X (compareOp .GtE) rGeS := by
  intro pins s σ H x y v u Q I rx ry h
  obtain ⟨i, j, rfl, rfl, q⟩ := h
  obtain ⟨t, rfl⟩ := rx
  obtain ⟨t', rfl⟩ := ry
  exact PySem.P.ge_str ⟨.bl _, H, I, rfl, q⟩
def rLtA : R2 := fun x y H Q => rI0 (fun i j => .bl (decide (i < j))) x y H Q ∨ rLtS x y H Q
def rLeA : R2 := fun x y H Q => rI0 (fun i j => .bl (decide (i ≤ j))) x y H Q ∨ rLeS x y H Q
def rGtA : R2 := fun x y H Q => rI0 (fun i j => .bl (decide (j < i))) x y H Q ∨ rGtS x y H Q
def rGeA : R2 := fun x y H Q => rI0 (fun i j => .bl (decide (j ≤ i))) x y H Q ∨ rGeS x y H Q
theorem op_ltA : OpR X (compareOp .Lt) rLtA := op_lt.or op_lt_str
theorem op_leA : OpR X (compareOp .LtE) rLeA := op_le.or op_le_str
theorem op_gtA : OpR X (compareOp .Gt) rGtA := op_gt.or op_gt_str
theorem op_geA : OpR X (compareOp .GtE) rGeA := op_ge.or op_ge_str

/-! ### in -/
def rInS (neg : Bool) : R2 := fun x y H Q => ∃ i j : Str, x = .str i ∧ y = .str j ∧ Q (.bl (if neg then !(!(Builtin.Str.occurrences j i 0 j.length 1).isEmpty) else !(Builtin.Str.occurrences j i 0 j.length 1).isEmpty)) H
def rInA (K : PySem.W.Frag) (neg : Bool) : R2 := fun x y H Q => rIn K neg x y H Q ∨ rInS neg x y H Q
theorem op_inA : OpR X (compareOp .In) (rInA X.K false) := op_in_seq.or op_in_str
theorem op_notinA : OpR X (compareOp .NotIn) (rInA X.K true) := op_notIn_seq.or op_notIn_str

/-! ### is -/
def rIsA : R2 := fun x y H Q => y = .non ∧ Q (.bl (decide (x = .non))) H
def rIsNotA : R2 := fun x y H Q => y = .non ∧ Q (.bl (!decide (x = .non))) H
theorem op_isA : OpR X (compareOp .Is) rIsA := op_isN
theorem op_isnotA : OpR X (compareOp .IsNot) rIsNotA := op_notN

/-! ### subscripts, len, list, tuple -/
theorem ix_any : IxR X (rIx X.K) := ix_seq
theorem set_any : PSet X rSetL := set_list
def rLenA (K : PySem.W.Frag) : List V → Hp → VK → Prop := fun xs H Q => (∃ p ys, xs = [.ref p] ∧ (SqL K H p ys ∨ SqT K H p ys) ∧ Q (.int ys.length) H) ∨ (∃ z, xs = [.str z] ∧ z.length ≤ sizeLine ∧ Q (.int z.length) H) ∨
  ∃ a kvs, xs = [V.ref a] ∧ H a = some (.dK kvs) ∧ Q (.int kvs.length) H
theorem call_lenA : CallR X (.builtin "len") (rLenA X.K) := call_len_seq.or (call_len_str.or call_lenD)
def rListA (K : PySem.W.Frag) : List V → Hp → VK → Prop := fun xs H Q => ∃ p ys, xs = [.ref p] ∧ (SqL K H p ys ∨ SqT K H p ys) ∧ ∀ l, H l = none → Q (.ref l) (upd H l (.lst ys))
theorem call_listA : CallR X (.type "list") (rListA X.K) := call_list_of
def rTupleA (K : PySem.W.Frag) : List V → Hp → VK → Prop := fun xs H Q => ∃ p ys, xs = [.ref p] ∧ ((SqL K H p ys ∧ ∀ l, H l = none → Q (.ref l) (upd H l (.tup ys))) ∨ (SqT K H p ys ∧ Q (.ref p) H))
theorem call_tupleA : CallR X (.type "tuple") (rTupleA X.K) := call_tuple_of
def rIntA : List V → Hp → VK → Prop := fun xs H Q => (∃ i, xs = [.int i] ∧ Q (.int i) H) ∨ ∃ k, xs = [.bl k] ∧ Q (.int (if k then 1 else 0)) H
theorem call_intA : CallR X (.type "int") rIntA := call_int1

/-! ### sorted of texts -/
theorem strs_are : ∀ {xs : List Str} {us : List Value}, Vals (strV xs) us → StrsAre us xs
  | [], _, h => by cases h; exact .nil
  | x :: xs, _, h => by
    have h : Vals (V.str x :: strV xs) _ := h
    cases h with
    | cons r t =>
      obtain ⟨t', rfl⟩ := r
      exact .cons x t' (strs_are t)
theorem vals_strs : ∀ {xs : List Str} {us : List Value}, StrsAre us xs → Vals (strV xs) us
  | _, _, .nil => .nil
  | _, _, .cons y t h => .cons ⟨t, rfl⟩ (vals_strs h)
def rSortedS (K : PySem.W.Frag) : List V → Hp → VK → Prop := fun xs H Q => ∃ p ys, xs = [.ref p] ∧ SqL K H p (strV ys) ∧ ys.length < 64 ∧
  ∀ l ys', ys'.Perm ys → sortedS ys' = true → H l = none → Q (.ref l) (upd H l (.lst (strV ys')))
theorem call_sortedA : CallR X (.builtin "sorted") (rSortedS X.K) := by
  intro pins s σ H xs us Q I r h
  obtain ⟨p, ys, rfl, hq, hl, q⟩ := h
  obtain ⟨u, rfl, rx⟩ := vals1 r
  cases rx
  obtain ⟨its, rv, pl, hz⟩ := I.list hq
  have hlen := rv.length
  have hn : (strV ys).length = ys.length := List.length_map _
  refine sorted_strs pl.isList (strs_are rv) (by omega) fun out ss' h1 h2 h3 => ?_
  have kp : ∀ b o, s.heap.get? b = some o → (sortedAll s.heap its out).get? b = some o := fun b o e => sortedAll_old e
  obtain ⟨e, he⟩ := sortedAll_at s.heap its out
  have hf : H (s.heap.objs.size + 1) = none := I.hok.fresh (Nat.le_succ _)
  have hz' : (strV ss').length ≤ sizeLine := by
    have := h2.length_eq
    show (ss'.map V.str).length ≤ _
    rw [List.length_map]; rw [hn] at hz; omega
  refine ⟨.ref (s.heap.objs.size + 1), _, I.laid (t' := s.toks) (o := .lst (strV ss')) kp (Nat.le_succ _) ?_, rfl, q _ _ h2 h3 hf⟩
  exact ⟨hz', out.toList, e, vals_strs h1, by simpa [seqObj] using he⟩

/-! ### methods -/
def rJoin (K : PySem.W.Frag) : V → List V → Hp → VK → Prop := fun x vs H Q => ∃ z p ys, x = .str z ∧ vs = [.ref p] ∧ (SqL K H p (strV ys) ∨ SqT K H p (strV ys)) ∧ (ys.map (·.length)).sum + ys.length * z.length ≤ 16777216 ∧ Q (.str (PySem.Txt.join z ys)) H
theorem mt_join : MtR X "str.join" (rJoin X.K) := by
  intro pins s σ H x vs v us Q I rx rv h
  obtain ⟨z, p, ys, rfl, rfl, hq, hs, q⟩ := h
  obtain ⟨t, rfl⟩ := rx
  obtain ⟨u, rfl, ru⟩ := rv.one
  cases ru
  rcases hq with hq | hq
  · obtain ⟨its, r, pl, hz⟩ := I.list hq
    exact wpAny_with_toks (n := 1) I.tk (join_list pl.isList (by simpa using strs_are r) hs fun t' k ht => ⟨.str _, H, I.tok _ ht, ⟨_, rfl⟩, q⟩)
  · obtain ⟨its, r, pl, hz⟩ := I.tuple hq
    exact wpAny_with_toks (n := 1) I.tk (join_tuple pl (by simpa using strs_are r) hs fun t' k ht => ⟨.str _, H, I.tok _ ht, ⟨_, rfl⟩, q⟩)
def rIndexS : V → List V → Hp → VK → Prop := fun x vs H Q => ∃ (z y : Str) (i : Nat) (rest : List Nat), x = .str z ∧ vs = [.str y] ∧ Builtin.Str.occurrences z y 0 z.length 1 = i :: rest ∧ Q (.int i) H
theorem mt_index_str : MtR X "str.index" rIndexS := by
  intro pins s σ H x vs v us Q I rx rv h
  obtain ⟨z, y, i, rest, rfl, rfl, ho, q⟩ := h
  obtain ⟨t, rfl⟩ := rx
  obtain ⟨u, rfl, ru⟩ := rv.one
  obtain ⟨t', rfl⟩ := ru
  exact SC.index ho ⟨.int i, H, I.tok _, ⟨_, rfl⟩, q⟩
def insAt {α : Type} (xs : List α) (k : Nat) (y : α) : List α := xs.take k ++ y :: xs.drop k
def rInsert : V → List V → Hp → VK → Prop := fun x vs H Q => ∃ (l : Addr) (xs : List V) (i : Int) (y : V), x = .ref l ∧ vs = [.int i, y] ∧ H l = some (.lst xs) ∧ 0 ≤ i ∧ i ≤ xs.length ∧ xs.length < sizeLine ∧ Q .non (upd H l (.lst (insAt xs i.toNat y)))
theorem mt_insert : MtR X "list.insert" rInsert := by
  intro pins s σ H x vs v us Q I rx rv h
  obtain ⟨l, xs, i, y, rfl, rfl, hH, h0, h1, hz, q⟩ := h
  cases rx
  obtain ⟨u, w', rfl, ru, rw'⟩ := rv.two
  obtain ⟨t, rfl⟩ := ru
  obtain ⟨z, its, n, r, hl, e⟩ := I.lstM hH
  have hs : sizeLine = 16777216 := sizeLine_eq
  refine call_meets F.slot_list_insert ⟨_, e, rfl⟩ F.entry_list_insert (F.args_list_insert_3 _ _ _) (AutoListH.list_insert_list_int_val_1 l its.toArray n i t w' (by rw [fitsIndex_both (by omega) (by omega)]; exact Bool.false_ne_true) (by rw [List.size_toArray]; omega)) ⟨e, ?_⟩
  refine ⟨.non, _, I.lset (its' := insAt its i.toNat w') (t' := s.toks) hH e ?_ ?_ ?_, rfl, q⟩
  · have hi : ¬ i < 0 := by omega
    have hm : min i.toNat its.length = i.toNat := by omega
    simp only [hi, if_false, List.size_toArray, hm]
    unfold insAt
    apply Array.toList_inj.mp
    simp
    exact List.take_of_length_le (by rw [List.length_drop]; exact Nat.le_refl _)
  · exact Vals.append (r.take i.toNat) (.cons rw' (r.drop i.toNat))
  · unfold insAt
    rw [List.length_append, List.length_cons, List.length_take, List.length_drop]
    omega
end
end L2

/-! walks over lists and tuples; loops and comprehensions by a word -/
namespace L2
open PySem PySem.Spec PyProof.Rows PySem.SeqAt

/-! ### a walk over a list or a tuple -/
def iAny (K : PySem.W.Frag) (tl : TE) : TI := fun σ H R => tl σ H fun x H1 => ∃ a, x = .ref a ∧ (((∃ xs, SqL K H1 a xs) ∧ R (Itl K a) H1) ∨ ((∃ xs, SqT K H1 a xs) ∧ R (Itt K a) H1))
theorem pi_any {X : Cx} {tg l : Expr} {tl : TE} (hl : PE X l tl) : PI X tg l (iAny X.K tl) := by
  intro pins s σ H R I h
  refine thn (hl pins s σ H _ I h) fun v s1 ⟨x, H1, I1, r1, q1⟩ => ?_
  obtain ⟨a, e, q⟩ := q1
  subst e
  cases r1
  rcases q with ⟨⟨xs, hq⟩, q⟩ | ⟨⟨xs, hq⟩, q⟩
  · obtain ⟨its, rv, p, hz⟩ := I1.list hq
    refine wpAny_pyIter_list p.isList ?_
    refine ⟨s1.heap.objs.size, [s1.heap.objs.size], _, _, H1, rfl, I1.kept (t' := s1.toks) fun b o e => Heap.get?_push_of_some _ e, turn_list a _, ⟨_, Heap.get?_push_size _ rfl, rfl, rfl⟩, fun b hb => ?_, q⟩
    have e : b = s1.heap.objs.size := by simpa using hb
    subst e
    exact I1.fpOk (Nat.le_refl _) (I1.hok.fresh (Nat.le_refl _))
  · obtain ⟨its, rv, p, hz⟩ := I1.tuple hq
    refine wpAny_pyIter_tuple (show s1.heap.IsTuple a its.toArray from p) ?_
    refine ⟨s1.heap.objs.size, [s1.heap.objs.size], _, _, H1, rfl, I1.kept (t' := s1.toks) fun b o e => Heap.get?_push_of_some _ e, turn_tuple a _, ⟨_, Heap.get?_push_size _ rfl, rfl, rfl⟩, fun b hb => ?_, q⟩
    have e : b = s1.heap.objs.size := by simpa using hb
    subst e
    exact I1.fpOk (Nat.le_refl _) (I1.hok.fresh (Nat.le_refl _))

/-! ### loops -/
theorem st_for {wi : TI} {g : TG} {tb : TS} {D : Ends} {σ : St} {H : Hp} (h : wi σ H fun J H1 => ∃ W : Nat → Nat → St → Hp → Prop, (∃ m, W 0 m σ H1) ∧ ∀ i m σ H, W i m σ H →
  (J.stop i H ∧ D.nx σ H) ∨ (J.go i H ∧ ∃ N : St → Hp → Prop, (∀ σ' H', N σ' H' → ∃ m', m' < m ∧ W (i + 1) m' σ' H') ∧ ∀ x H', J.yld i H x H' → g x σ H' fun σ2 H2 => tb { D with nx := N, ct := N, bk := D.nx } σ2 H2)) : tFor wi g tb D σ H := h
/-- what a loop wants of an iterator -/
abbrev ForW (g : TG) (tb : TS) (D : Ends) (σ : St) (J : It) (H1 : Hp) : Prop := ∃ W : Nat → Nat → St → Hp → Prop, (∃ m, W 0 m σ H1) ∧ ∀ i m σ H, W i m σ H →
  (J.stop i H ∧ D.nx σ H) ∨ (J.go i H ∧ ∃ N : St → Hp → Prop, (∀ σ' H', N σ' H' → ∃ m', m' < m ∧ W (i + 1) m' σ' H') ∧ ∀ x H', J.yld i H x H' → g x σ H' fun σ2 H2 => tb { D with nx := N, ct := N, bk := D.nx } σ2 H2)
/-- a walk over the sequence at a -/
theorem any_for {K : PySem.W.Frag} {g : TG} {tb : TS} {D : Ends} {σ : St} {H : Hp} {a : Addr} {xs : List V} (hq : SqL K H a xs ∨ SqT K H a xs) (Pv : Nat → St → Hp → Prop) (h0 : Pv 0 σ H)
    (hl : SqL K H a xs → ∀ i σ H, i ≤ xs.length → Pv i σ H → SqL K H a xs) (ht : SqT K H a xs → ∀ i σ H, i ≤ xs.length → Pv i σ H → SqT K H a xs)
    (hs : ∀ i x σ H, xs[i]? = some x → Pv i σ H → g x σ H fun σ2 H2 => tb { D with nx := Pv (i + 1), ct := Pv (i + 1), bk := D.nx } σ2 H2) (hd : ∀ σ H, Pv xs.length σ H → D.nx σ H) :
    ∃ b, V.ref a = .ref b ∧ (((∃ xs, SqL K H b xs) ∧ ForW g tb D σ (Itl K b) H) ∨ ((∃ xs, SqT K H b xs) ∧ ForW g tb D σ (Itt K b) H)) := by
  refine ⟨a, rfl, ?_⟩
  rcases hq with hq | hq
  · exact .inl ⟨⟨xs, hq⟩, for_list Pv h0 (hl hq) hs hd⟩
  · exact .inr ⟨⟨xs, hq⟩, for_tup Pv h0 (ht hq) hs hd⟩
theorem rng1_for {g : TG} {tb : TS} {D : Ends} {σ : St} {H : Hp} {n : Int} (h0 : 0 ≤ n) (hn : n < 2 ^ 62) (Pv : Nat → St → Hp → Prop) (p0 : Pv 0 σ H)
    (hs : ∀ (i : Nat) σ H, (i : Int) < n → Pv i σ H → g (.int i) σ H fun σ2 H2 => tb { D with nx := Pv (i + 1), ct := Pv (i + 1), bk := D.nx } σ2 H2) (hd : ∀ σ H, Pv n.toNat σ H → D.nx σ H) :
    ∃ j : Int, [V.int n] = [.int j] ∧ -(2 ^ 62) ≤ j ∧ j < 2 ^ 62 ∧ ForW g tb D σ (Itr 0 j.toNat) H :=
  ⟨n, rfl, by omega, hn, for_range (lo := 0) (n := n.toNat) Pv p0 (fun i σ H hi p => by rw [Int.zero_add]; exact hs i σ H (by omega) p) hd⟩
theorem rng2_for {g : TG} {tb : TS} {D : Ends} {σ : St} {H : Hp} {lo hi : Int} (h1 : -(2 ^ 62) ≤ lo) (h2 : lo ≤ hi) (h3 : hi < 2 ^ 62) (Pv : Nat → St → Hp → Prop) (p0 : Pv 0 σ H)
    (hs : ∀ (i : Nat) σ H, lo + i < hi → Pv i σ H → g (.int (lo + i)) σ H fun σ2 H2 => tb { D with nx := Pv (i + 1), ct := Pv (i + 1), bk := D.nx } σ2 H2) (hd : ∀ σ H, Pv (hi - lo).toNat σ H → D.nx σ H) :
    ∃ i j : Int, [V.int lo, V.int hi] = [.int i, .int j] ∧ (-(2 ^ 62) ≤ i ∧ i < 2 ^ 62 ∧ -(2 ^ 62) ≤ j ∧ j < 2 ^ 62) ∧ ForW g tb D σ (Itr i (j - i).toNat) H :=
  ⟨lo, hi, rfl, ⟨h1, by omega, by omega, h3⟩, for_range (lo := lo) (n := (hi - lo).toNat) Pv p0 (fun i σ H hi p => hs i σ H (by omega) p) hd⟩

/-! ### comprehensions by a word: what was gathered, the heap -/
abbrev CompW (g : TG) (tt : TT) (te : TE) (σ' : St) (Q : VK) (J : It) (H1 : Hp) : Prop := ∃ W : Nat → Nat → List V → Hp → Prop, (∃ m, W 0 m [] H1) ∧ ∀ i m ys H, W i m ys H → ys.length ≤ sizeLine ∧
    ((J.stop i H ∧ ∀ p, H p = none → Q (.ref p) (upd H p (.lst ys))) ∨
     (J.go i H ∧ ∃ NN : List V → Hp → Prop, (∀ ys' H', NN ys' H' → ∃ m', m' < m ∧ W (i + 1) m' ys' H') ∧ ∀ x H', J.yld i H x H' → g x σ' H' fun σ2 H2 => tt σ2 H2 fun b H3 =>
        if b = true then te σ2 H3 fun y H4 => NN (ys ++ [y]) H4 else NN ys H3))
theorem st_comp {fr : List (Option Nat)} {wi : TI} {g : TG} {tt : TT} {te : TE} {σ : St} {H : Hp} {Q : VK} (h : wi σ H (CompW g tt te (grab fr σ) Q)) : tComp fr wi g tt te σ H Q := h
theorem comp_of {J : It} {n : Nat} {g : TG} {tt : TT} {te : TE} {σ' : St} {H : Hp} {Q : VK} (item : Nat → V → Prop) (Pv : Nat → List V → Hp → Prop) (h0 : Pv 0 [] H) (hlen : ∀ i ys H, i ≤ n → Pv i ys H → ys.length ≤ sizeLine)
    (hgo : ∀ i ys H, i < n → Pv i ys H → J.go i H) (hy : ∀ i ys H x H', i < n → Pv i ys H → J.yld i H x H' → H' = H ∧ item i x) (hst : ∀ ys H, Pv n ys H → J.stop n H)
    (hs : ∀ i x ys H, i < n → item i x → Pv i ys H → g x σ' H fun σ2 H2 => tt σ2 H2 fun b H3 => if b = true then te σ2 H3 fun y H4 => Pv (i + 1) (ys ++ [y]) H4 else Pv (i + 1) ys H3)
    (hd : ∀ ys H, Pv n ys H → ∀ p, H p = none → Q (.ref p) (upd H p (.lst ys))) : CompW g tt te σ' Q J H := by
  refine ⟨fun i m ys H => m = n - i ∧ i ≤ n ∧ Pv i ys H, ⟨n, by simp, Nat.zero_le _, h0⟩, ?_⟩
  rintro i m ys H ⟨rfl, hi, p⟩
  refine ⟨hlen i ys H hi p, ?_⟩
  by_cases hlt : i < n
  · refine .inr ⟨hgo i ys H hlt p, Pv (i + 1), fun ys' H' q => ⟨n - (i + 1), by omega, rfl, hlt, q⟩, fun x H' y => ?_⟩
    obtain ⟨rfl, hx⟩ := hy i ys H x H' hlt p y
    exact hs i x ys _ hlt hx p
  · have e : i = n := by omega
    subst e
    exact .inl ⟨hst ys H p, hd ys H p⟩
theorem any_comp {K : PySem.W.Frag} {g : TG} {tt : TT} {te : TE} {σ' : St} {H : Hp} {Q : VK} {a : Addr} {xs : List V} (hq : SqL K H a xs ∨ SqT K H a xs) (Pv : Nat → List V → Hp → Prop) (h0 : Pv 0 [] H) (hlen : ∀ i ys H, i ≤ xs.length → Pv i ys H → ys.length ≤ sizeLine)
    (hl : SqL K H a xs → ∀ i ys H, i ≤ xs.length → Pv i ys H → SqL K H a xs) (ht : SqT K H a xs → ∀ i ys H, i ≤ xs.length → Pv i ys H → SqT K H a xs)
    (hs : ∀ i x ys H, xs[i]? = some x → Pv i ys H → g x σ' H fun σ2 H2 => tt σ2 H2 fun b H3 => if b = true then te σ2 H3 fun y H4 => Pv (i + 1) (ys ++ [y]) H4 else Pv (i + 1) ys H3)
    (hd : ∀ ys H, Pv xs.length ys H → ∀ p, H p = none → Q (.ref p) (upd H p (.lst ys))) :
    ∃ b, V.ref a = .ref b ∧ (((∃ xs, SqL K H b xs) ∧ CompW g tt te σ' Q (Itl K b) H) ∨ ((∃ xs, SqT K H b xs) ∧ CompW g tt te σ' Q (Itt K b) H)) := by
  refine ⟨a, rfl, ?_⟩
  have get : ∀ i, i < xs.length → ∃ x, xs[i]? = some x := fun i hi => ⟨xs[i], by simp [hi]⟩
  rcases hq with hq | hq
  · refine .inl ⟨⟨xs, hq⟩, comp_of (n := xs.length) (fun i x => xs[i]? = some x) Pv h0 hlen (fun i ys H hi p => ?_) (fun i ys H x H' hi p y => ?_) (fun ys H p => ?_) (fun i x ys H _ hx p => hs i x ys H hx p) hd⟩
    · obtain ⟨x, hx⟩ := get i hi
      exact ⟨xs, x, hl hq i ys H (Nat.le_of_lt hi) p, hx⟩
    · exact ⟨y.1, y.2 xs (hl hq i ys H (Nat.le_of_lt hi) p)⟩
    · exact ⟨xs, hl hq _ ys H (Nat.le_refl _) p, Nat.le_refl _⟩
  · refine .inr ⟨⟨xs, hq⟩, comp_of (n := xs.length) (fun i x => xs[i]? = some x) Pv h0 hlen (fun i ys H hi p => ?_) (fun i ys H x H' hi p y => ?_) (fun ys H p => ?_) (fun i x ys H _ hx p => hs i x ys H hx p) hd⟩
    · obtain ⟨x, hx⟩ := get i hi
      exact ⟨xs, x, ht hq i ys H (Nat.le_of_lt hi) p, hx⟩
    · exact ⟨y.1, y.2 xs (ht hq i ys H (Nat.le_of_lt hi) p)⟩
    · exact ⟨xs, ht hq _ ys H (Nat.le_refl _) p, Nat.le_refl _⟩
theorem any_compL {K : PySem.W.Frag} {g : TG} {tt : TT} {te : TE} {σ' : St} {H : Hp} {Q : VK} {a : Addr} {xs : List V} (hq : SqL K H a xs) (Pv : Nat → List V → Hp → Prop) (h0 : Pv 0 [] H) (hlen : ∀ i ys H, i ≤ xs.length → Pv i ys H → ys.length ≤ sizeLine)
    (hl : ∀ i ys H, i ≤ xs.length → Pv i ys H → SqL K H a xs)
    (hs : ∀ i x ys H, xs[i]? = some x → Pv i ys H → g x σ' H fun σ2 H2 => tt σ2 H2 fun b H3 => if b = true then te σ2 H3 fun y H4 => Pv (i + 1) (ys ++ [y]) H4 else Pv (i + 1) ys H3)
    (hd : ∀ ys H, Pv xs.length ys H → ∀ p, H p = none → Q (.ref p) (upd H p (.lst ys))) :
    ∃ b, V.ref a = .ref b ∧ (((∃ xs, SqL K H b xs) ∧ CompW g tt te σ' Q (Itl K b) H) ∨ ((∃ xs, SqT K H b xs) ∧ CompW g tt te σ' Q (Itt K b) H)) := by
  refine ⟨a, rfl, .inl ⟨⟨xs, hq⟩, comp_of (n := xs.length) (fun i x => xs[i]? = some x) Pv h0 hlen (fun i ys H hi p => ?_) (fun i ys H x H' hi p y => ?_) (fun ys H p => ?_) (fun i x ys H _ hx p => hs i x ys H hx p) hd⟩⟩
  · exact ⟨xs, xs[i], hl i ys H (Nat.le_of_lt hi) p, by simp [hi]⟩
  · exact ⟨y.1, y.2 xs (hl i ys H (Nat.le_of_lt hi) p)⟩
  · exact ⟨xs, hl _ ys H (Nat.le_refl _) p, Nat.le_refl _⟩
theorem any_forL {K : PySem.W.Frag} {g : TG} {tb : TS} {D : Ends} {σ : St} {H : Hp} {a : Addr} {xs : List V} (hq : SqL K H a xs) (Pv : Nat → St → Hp → Prop) (h0 : Pv 0 σ H)
    (hl : ∀ i σ H, i ≤ xs.length → Pv i σ H → SqL K H a xs)
    (hs : ∀ i x σ H, xs[i]? = some x → Pv i σ H → g x σ H fun σ2 H2 => tb { D with nx := Pv (i + 1), ct := Pv (i + 1), bk := D.nx } σ2 H2) (hd : ∀ σ H, Pv xs.length σ H → D.nx σ H) :
    ∃ b, V.ref a = .ref b ∧ (((∃ xs, SqL K H b xs) ∧ ForW g tb D σ (Itl K b) H) ∨ ((∃ xs, SqT K H b xs) ∧ ForW g tb D σ (Itt K b) H)) :=
  ⟨a, rfl, .inl ⟨⟨xs, hq⟩, for_list Pv h0 hl hs hd⟩⟩
theorem rng1_comp {g : TG} {tt : TT} {te : TE} {σ' : St} {H : Hp} {Q : VK} {n : Int} (h0 : 0 ≤ n) (hn : n < 2 ^ 62) (Pv : Nat → List V → Hp → Prop) (p0 : Pv 0 [] H) (hlen : ∀ (i : Nat) ys H, (i : Int) ≤ n → Pv i ys H → ys.length ≤ sizeLine)
    (hs : ∀ (i : Nat) ys H, (i : Int) < n → Pv i ys H → g (.int i) σ' H fun σ2 H2 => tt σ2 H2 fun b H3 => if b = true then te σ2 H3 fun y H4 => Pv (i + 1) (ys ++ [y]) H4 else Pv (i + 1) ys H3)
    (hd : ∀ ys H, Pv n.toNat ys H → ∀ p, H p = none → Q (.ref p) (upd H p (.lst ys))) :
    ∃ j : Int, [V.int n] = [.int j] ∧ -(2 ^ 62) ≤ j ∧ j < 2 ^ 62 ∧ CompW g tt te σ' Q (Itr 0 j.toNat) H :=
  ⟨n, rfl, by omega, hn, comp_of (n := n.toNat) (fun i x => x = .int i) Pv p0 (fun i ys H hi p => hlen i ys H (by omega) p) (fun i ys H hi _ => hi) (fun i ys H x H' hi _ y => ⟨y.1, by rw [y.2, Int.zero_add]⟩) (fun ys H _ => Nat.le_refl _)
    (fun i x ys H hi hx p => by subst hx; exact hs i ys H (by omega) p) hd⟩
theorem rng2_comp {g : TG} {tt : TT} {te : TE} {σ' : St} {H : Hp} {Q : VK} {lo hi : Int} (h1 : -(2 ^ 62) ≤ lo) (h2 : lo ≤ hi) (h3 : hi < 2 ^ 62) (Pv : Nat → List V → Hp → Prop) (p0 : Pv 0 [] H) (hlen : ∀ (i : Nat) ys H, lo + i ≤ hi → Pv i ys H → ys.length ≤ sizeLine)
    (hs : ∀ (i : Nat) ys H, lo + i < hi → Pv i ys H → g (.int (lo + i)) σ' H fun σ2 H2 => tt σ2 H2 fun b H3 => if b = true then te σ2 H3 fun y H4 => Pv (i + 1) (ys ++ [y]) H4 else Pv (i + 1) ys H3)
    (hd : ∀ ys H, Pv (hi - lo).toNat ys H → ∀ p, H p = none → Q (.ref p) (upd H p (.lst ys))) :
    ∃ i j : Int, [V.int lo, V.int hi] = [.int i, .int j] ∧ (-(2 ^ 62) ≤ i ∧ i < 2 ^ 62 ∧ -(2 ^ 62) ≤ j ∧ j < 2 ^ 62) ∧ CompW g tt te σ' Q (Itr i (j - i).toNat) H :=
  ⟨lo, hi, rfl, ⟨h1, by omega, by omega, h3⟩, comp_of (n := (hi - lo).toNat) (fun i x => x = .int (lo + i)) Pv p0 (fun i ys H hi' p => hlen i ys H (by omega) p) (fun i ys H hi' _ => hi') (fun i ys H x H' hi' _ y => y) (fun ys H _ => Nat.le_refl _)
    (fun i x ys H hi' hx p => by subst hx; exact hs i ys H (by omega) p) hd⟩

theorem But.sqL {K : PySem.W.Frag} {ps : List Addr} {H H' : Hp} {a : Addr} {xs : List V} (e : But ps H H') (n : a ∉ ps) (h : SqL K H a xs) : SqL K H' a xs := by
  rcases h with (h | ⟨o, h⟩) | h
  · exact .inl (.inl (e _ _ h n))
  · exact .inl (.inr ⟨o, e _ _ h n⟩)
  · exact .inr h
theorem But.new {ps : List Addr} {H H' : Hp} {p : Addr} (e : But ps H H') (h : H' p = none) (o : HO) : But ps H (L2.upd H' p o) := fun b u q n => by
  have := e b u q n
  rw [upd_ne (ne_of_none this h)]; exact this
/-! ### steps over readings -/
section
variable {σ : St} {H : Hp} {Q : VK} {D : Ends}
theorem st_seq {t u : TS} (h : t { D with nx := u D } σ H) : tSeq t u D σ H := h
theorem st_next (h : D.nx σ H) : tNext D σ H := h
theorem st_asg {te : TE} {g : TG} (h : te σ H fun x H1 => g x σ H1 D.nx) : tAsg te g D σ H := h
theorem st_name {i : Nat} {v : V} {R : St → Hp → Prop} (h : R (σ.set i (some v)) H) : gName i v σ H R := h
theorem st_var {i : Nat} {v : V} (e : σ[i]? = some (some v)) (h : Q v H) : tVar i σ H Q := ⟨v, e, h⟩
theorem st_C {v : V} (h : Q v H) : tC v σ H Q := h
theorem st_op {r : R2} {ta tb : TE} (h : ta σ H fun x H1 => tb σ H1 fun y H2 => r x y H2 Q) : tOp r ta tb σ H Q := h
theorem st_un {r : V → Hp → VK → Prop} {ta : TE} (h : ta σ H fun x H1 => r x H1 Q) : tUn r ta σ H Q := h
theorem st_ret {te : TE} (h : te σ H D.rt) : tRet te D σ H := h
theorem st_retN (h : D.rt .non H) : tRetN D σ H := h
theorem st_drop {te : TE} (h : te σ H fun _ H1 => D.nx σ H1) : tDrop te D σ H := h
theorem st_if {c : TT} {t u : TS} (h : c σ H fun b H1 => if b = true then t D σ H1 else u D σ H1) : tIfS c t u D σ H := h
theorem st_ifE {c : TT} {ta tb : TE} (h : c σ H fun b H1 => if b = true then ta σ H1 Q else tb σ H1 Q) : tIf c ta tb σ H Q := h
theorem st_test {t : TE} {R : Bool → Hp → Prop} (h : t σ H fun x H' => ∃ k, x = .bl k ∧ R k H') : tTest t σ H R := h
theorem st_B {t : TE} {R : Bool → Hp → Prop} (h : t σ H fun x H' => ∃ k, x = .bl k ∧ R k H') : tB t σ H R := h
theorem st_bl {b : Bool} {R : Bool → Prop} (h : R b) : ∃ k, V.bl b = .bl k ∧ R k := ⟨b, rfl, h⟩
theorem st_and {t u : TT} {R : Bool → Hp → Prop} (h : t σ H fun c H1 => if c = true then u σ H1 R else R false H1) : tAnd t u σ H R := h
theorem st_or {t u : TT} {R : Bool → Hp → Prop} (h : t σ H fun c H1 => if c = true then R true H1 else u σ H1 R) : tOr t u σ H R := h
theorem st_not {t : TT} {R : Bool → Hp → Prop} (h : t σ H fun c H1 => R (!c) H1) : tNot t σ H R := h
theorem st_andV {ta tb : TE} (h : ta σ H fun x H1 => ∃ c, x = .bl c ∧ if c = true then tb σ H1 Q else Q (.bl false) H1) : tAndV ta tb σ H Q := h
theorem st_orV {ta tb : TE} (h : ta σ H fun x H1 => ∃ c, x = .bl c ∧ if c = true then Q (.bl true) H1 else tb σ H1 Q) : tOrV ta tb σ H Q := h
theorem st_notV {ta : TE} (h : ta σ H fun x H1 => ∃ c, x = .bl c ∧ Q (.bl (!c)) H1) : tNotV ta σ H Q := h
theorem st_nil {R : List V → Hp → Prop} (h : R [] H) : tNil σ H R := h
theorem st_cons {ta : TE} {tr : TA} {R : List V → Hp → Prop} (h : ta σ H fun x H1 => tr σ H1 fun xs H2 => R (x :: xs) H2) : tCons ta tr σ H R := h
theorem st_tup {t : TA} (h : t σ H fun xs H1 => xs.length ≤ sizeLine ∧ ∀ p, H1 p = none → Q (.ref p) (upd H1 p (.tup xs))) : tTup t σ H Q := h
theorem st_lst {t : TA} (h : t σ H fun xs H1 => xs.length ≤ sizeLine ∧ ∀ p, H1 p = none → Q (.ref p) (upd H1 p (.lst xs))) : tLst t σ H Q := h
theorem st_call {sp : Sp} {dvs : List V} {E : XK} {t : TA} (h : t σ H fun vs H1 => sp (vs ++ dvs) H1 Q E) : tCall sp dvs E t σ H Q := h
theorem st_CB {r : List V → Hp → VK → Prop} {t : TA} (h : t σ H fun vs H1 => r vs H1 Q) : tCB r t σ H Q := h
theorem st_tt {R : Bool → Hp → Prop} (h : R true H) : tTT σ H R := h
theorem st_break (h : D.bk σ H) : tBreak D σ H := h
theorem st_cont (h : D.ct σ H) : tCont D σ H := h
theorem st_any {K : PySem.W.Frag} {tl : TE} {R : It → Hp → Prop} (h : tl σ H fun x H1 => ∃ a, x = .ref a ∧ (((∃ xs, SqL K H1 a xs) ∧ R (Itl K a) H1) ∨ ((∃ xs, SqT K H1 a xs) ∧ R (Itt K a) H1))) : iAny K tl σ H R := h
theorem st_rng1 {ta : TA} {R : It → Hp → Prop} (h : ta σ H fun vs H1 => ∃ j : Int, vs = [.int j] ∧ -(2 ^ 62) ≤ j ∧ j < 2 ^ 62 ∧ R (Itr 0 j.toNat) H1) : iRng1 ta σ H R := h
theorem st_rng2 {ta : TA} {R : It → Hp → Prop} (h : ta σ H fun vs H1 => ∃ i j : Int, vs = [.int i, .int j] ∧ (-(2 ^ 62) ≤ i ∧ i < 2 ^ 62 ∧ -(2 ^ 62) ≤ j ∧ j < 2 ^ 62) ∧ R (Itr i (j - i).toNat) H1) : iRng2 ta σ H R := h
theorem st_sub {to ti : TE} {t : TSet} {v : V} {R : St → Hp → Prop} (h : to σ H fun o H1 => ti σ H1 fun i H2 => t o i v H2 fun H3 => R σ H3) : gSub to ti t v σ H R := h
theorem st_bm {K : PySem.W.Frag} {T : String} {r : V → List V → Hp → VK → Prop} {to : TE} {t : TA} (h : to σ H fun x H1 => tyV K T x H1 ∧ t σ H1 fun xs H2 => r x xs H2 Q) : tBM K T r to t σ H Q := h
theorem st_chain {r r' : R2} {ta tb tc : TE} (h : ta σ H fun x H1 => tb σ H1 fun y H2 => r x y H2 fun z H3 => ∃ k, z = .bl k ∧ (if k = true then tc σ H3 fun w' H4 => r' y w' H4 Q else Q (.bl false) H3)) : tChain r r' ta tb tc σ H Q := h
end
/-! the operations at values -/
section
variable {H : Hp} {Q : VK} {K : PySem.W.Frag}
theorem v_addI {i j : Int} (h : Q (.int (i + j)) H) : rAddA K (.int i) (.int j) H Q := .inl ⟨i, j, rfl, rfl, h⟩
theorem v_addS {i j : Str} (hz : i.length + j.length ≤ sizeLine) (h : Q (.str (i ++ j)) H) : rAddA K (.str i) (.str j) H Q := .inr (.inl ⟨i, j, rfl, rfl, hz, h⟩)
theorem v_cat {a b : Addr} {xs ys : List V} (h1 : H a = some (.lst xs)) (h2 : H b = some (.lst ys)) (hz : xs.length + ys.length ≤ sizeLine) (h : ∀ p, H p = none → Q (.ref p) (upd H p (.lst (xs ++ ys)))) : rAddA K (.ref a) (.ref b) H Q := .inr (.inr (.inl ⟨a, b, xs, ys, rfl, rfl, h1, h2, hz, h⟩))
theorem v_subI {i j : Int} (h : Q (.int (i - j)) H) : rI0 (fun i j => .int (i - j)) (.int i) (.int j) H Q := ⟨i, j, rfl, rfl, h⟩
theorem v_mulI {i j : Int} (c : CMul i j) (h : Q (.int (i * j)) H) : rMulA (.int i) (.int j) H Q := .inl ⟨i, j, rfl, rfl, c, h⟩
theorem v_mulS {z : Str} {n : Int} (h0 : 0 ≤ n) (h1 : n ≤ 1000) (h2 : z.length ≤ 1000) (h : Q (.str (PySem.Txt.mul z n)) H) : rMulA (.str z) (.int n) H Q := .inr (.inl ⟨z, n, rfl, rfl, h0, h1, h2, h⟩)
theorem v_fdiv {i j : Int} (c : CDiv i j) (h : Q (.int (i / j)) H) : rI CDiv (fun i j => .int (i / j)) (.int i) (.int j) H Q := ⟨i, j, rfl, rfl, c, h⟩
theorem v_mod {i j : Int} (c : 0 < j) (h : Q (.int (i % j)) H) : rI (fun _ j => 0 < j) (fun i j => .int (i % j)) (.int i) (.int j) H Q := ⟨i, j, rfl, rfl, c, h⟩
theorem v_ltI {i j : Int} (h : Q (.bl (decide (i < j))) H) : rLtA (.int i) (.int j) H Q := .inl ⟨i, j, rfl, rfl, h⟩
theorem v_leI {i j : Int} (h : Q (.bl (decide (i ≤ j))) H) : rLeA (.int i) (.int j) H Q := .inl ⟨i, j, rfl, rfl, h⟩
theorem v_gtI {i j : Int} (h : Q (.bl (decide (j < i))) H) : rGtA (.int i) (.int j) H Q := .inl ⟨i, j, rfl, rfl, h⟩
theorem v_geI {i j : Int} (h : Q (.bl (decide (j ≤ i))) H) : rGeA (.int i) (.int j) H Q := .inl ⟨i, j, rfl, rfl, h⟩
theorem v_ltS {i j : Str} (h : Q (.bl (decide (i.cps.toList < j.cps.toList))) H) : rLtA (.str i) (.str j) H Q := .inr ⟨i, j, rfl, rfl, h⟩
theorem v_leS {i j : Str} (h : Q (.bl (!decide (j.cps.toList < i.cps.toList))) H) : rLeA (.str i) (.str j) H Q := .inr ⟨i, j, rfl, rfl, h⟩
theorem v_eq {x y : V} (c : scal x y = true) (h : Q (.bl (decide (x = y))) H) : rEqA K x y H Q := .inl ⟨c, h⟩
theorem v_ne {x y : V} (c : scal x y = true) (h : Q (.bl (!decide (x = y))) H) : rNeA K x y H Q := .inl ⟨c, h⟩
theorem v_eqD {x y : V} {d e : PyData} (h1 : Dv K H d x) (h2 : Dv K H e y) (hz : d.depth ≤ 64) (h : Q (.bl (PyData.eqv d e)) H) : rEqA K x y H Q := .inr ⟨d, e, h1, h2, hz, h⟩
theorem v_neD {x y : V} {d e : PyData} (h1 : Dv K H d x) (h2 : Dv K H e y) (hz : d.depth ≤ 64) (h : Q (.bl (!PyData.eqv d e)) H) : rNeA K x y H Q := .inr ⟨d, e, h1, h2, hz, h⟩
theorem v_is {x : V} (h : Q (.bl (decide (x = .non))) H) : rIsA x .non H Q := ⟨rfl, h⟩
theorem v_isnot {x : V} (h : Q (.bl (!decide (x = .non))) H) : rIsNotA x .non H Q := ⟨rfl, h⟩
theorem v_ixL {p : Addr} {xs : List V} {i : Int} {v : V} (h1 : SqL K H p xs) (e : atI xs i = some v) (h : Q v H) : rIx K (.ref p) (.int i) H Q := .inl ⟨p, xs, i, v, rfl, rfl, h1, e, h⟩
theorem v_ixT {p : Addr} {xs : List V} {i : Int} {v : V} (h1 : SqT K H p xs) (e : atI xs i = some v) (h : Q v H) : rIx K (.ref p) (.int i) H Q := .inr (.inl ⟨p, xs, i, v, rfl, rfl, h1, e, h⟩)
theorem v_ixS {z : Str} {i : Int} {c : Nat} (hz : z.length ≤ sizeLine) (e : atI z.cps.toList i = some c) (h : Q (.str ⟨#[c]⟩) H) : rIx K (.str z) (.int i) H Q := .inr (.inr ⟨z, i, c, rfl, rfl, hz, e, h⟩)
theorem v_in {x : V} {p : Addr} {xs : List V} (h1 : SqL K H p xs ∨ SqT K H p xs) (fx : flatV x = true) (fs : xs.all flatV = true) (h : Q (.bl (inV x xs)) H) : rInA K false x (.ref p) H Q := .inl ⟨p, xs, rfl, h1, fx, fs, h⟩
theorem v_notin {x : V} {p : Addr} {xs : List V} (h1 : SqL K H p xs ∨ SqT K H p xs) (fx : flatV x = true) (fs : xs.all flatV = true) (h : Q (.bl (!inV x xs)) H) : rInA K true x (.ref p) H Q := .inl ⟨p, xs, rfl, h1, fx, fs, h⟩
theorem v_lenQ {p : Addr} {xs : List V} (h1 : SqL K H p xs ∨ SqT K H p xs) (h : Q (.int xs.length) H) : rLenA K [.ref p] H Q := .inl ⟨p, xs, rfl, h1, h⟩
theorem v_lenS {z : Str} (hz : z.length ≤ sizeLine) (h : Q (.int z.length) H) : rLenA K [.str z] H Q := .inr (.inl ⟨z, rfl, hz, h⟩)
theorem v_setL {p : Addr} {xs : List V} {k : Int} {v : V} {j : Nat} {R : Hp → Prop} (h1 : H p = some (.lst xs)) (e : ixN xs.length k = some j) (h : R (upd H p (.lst (xs.set j v)))) : rSetL (.ref p) (.int k) v H R := ⟨p, xs, k, j, rfl, rfl, h1, e, h⟩
theorem v_append {p : Addr} {xs : List V} {y : V} (h1 : H p = some (.lst xs)) (hz : xs.length < sizeLine) (h : Q .non (upd H p (.lst (xs ++ [y])))) : rAppend (.ref p) [y] H Q := ⟨p, xs, y, rfl, rfl, h1, hz, h⟩
theorem v_insert {p : Addr} {xs : List V} {i : Int} {y : V} (h1 : H p = some (.lst xs)) (h0 : 0 ≤ i) (hi : i ≤ xs.length) (hz : xs.length < sizeLine) (h : Q .non (upd H p (.lst (insAt xs i.toNat y)))) : rInsert (.ref p) [.int i, y] H Q := ⟨p, xs, i, y, rfl, rfl, h1, h0, hi, hz, h⟩
end
end L2

/-! more walks and calls -/
namespace L2
open PySem PySem.Spec PyProof.Rows PySem.SeqAt

/-! ### reversed(range(n)) -/
theorem sub_ri_reversed : isSubtype (.type "range_iterator") (.type "reversed") = pure false := by rw [isSubtype_type]; kernel_rfl
def revSmall (a b c : Int) : Bool := Builtin.Range.rangeFitsLong a && Builtin.Range.rangeFitsLong b && Builtin.Range.rangeFitsLong c && Builtin.Range.rangeFitsLong (-c) && Builtin.Range.rangeFitsLong (a - c) && Builtin.Range.rangeFitsLong (Builtin.Range.rangeSize a b c)
theorem range_rev_meets (r : Addr) (a b c : Int) (t u v : Tok) (hc0 : ¬(!(Builtin.Range.rangeFitsLong a && Builtin.Range.rangeFitsLong b && Builtin.Range.rangeFitsLong c && Builtin.Range.rangeFitsLong (-c) && Builtin.Range.rangeFitsLong (a - c) && Builtin.Range.rangeFitsLong (Builtin.Range.rangeSize a b c))) = true) :
    Meets (Builtin.«range.__reversed__» ⟨[.ref r], []⟩) (fun _ R s => s.heap.get? r = some { cls := .type "range", dict := none, data := .fields #[.int a t, .int b u, .int c v], slots := #[] } ∧
      R (.ok (.ret (Value.ref s.heap.objs.size))) { s with heap := s.heap.push { cls := Value.type (if (Builtin.Range.rangeFitsLong a && Builtin.Range.rangeFitsLong b && Builtin.Range.rangeFitsLong c && Builtin.Range.rangeFitsLong (-c) && Builtin.Range.rangeFitsLong (a - c) && Builtin.Range.rangeFitsLong (Builtin.Range.rangeSize a b c)) = true then "range_iterator" else "longrange_iterator"), data := .fields #[rawInt (a + (Builtin.Range.rangeSize a b c - 1) * c), rawInt (Builtin.Range.rangeSize a b c), rawInt (-c)] } }) :=
  .of_wp fun prog w A R s h => by obtain ⟨hp, g, d, tk, os⟩ := s; obtain ⟨hl, h⟩ := h; wp_walk; exact ⟨_, rfl, h⟩
section
variable {prog : Program} {w : World} {A : Around} {E : Value → Shared → Prop} {s : Shared}
def revRng (n : Int) : Obj := { cls := .type "range_iterator", data := .fields #[rawInt (n - 1), rawInt n, rawInt (-1)] }
theorem call_range_rev {r : Addr} {n : Int} {t u v : Tok} {Q : Value → Shared → Prop} (hr : s.heap.get? r = some { cls := .type "range", data := .fields #[.int 0 t, .int n u, .int 1 v] }) (h0 : 0 ≤ n) (h1 : n < 2 ^ 62)
    (h : Q (.ref s.heap.objs.size) { s with heap := s.heap.push (revRng n) }) : wpAny (model prog w) A (call (.builtin "range.__reversed__") [.ref r]) Q E s := by
  have e1 : Builtin.Range.rangeSize 0 n 1 = n := by rw [rangeSize_one]; split <;> omega
  have fit : ∀ k : Int, -(2 ^ 62) ≤ k → k ≤ 2 ^ 62 → Builtin.Range.rangeFitsLong k = true := fun k a b => by
    unfold Builtin.Range.rangeFitsLong
    simp only [Bool.and_eq_true, decide_eq_true_eq]
    constructor <;> omega
  have sm : (Builtin.Range.rangeFitsLong 0 && Builtin.Range.rangeFitsLong n && Builtin.Range.rangeFitsLong 1 && Builtin.Range.rangeFitsLong (-1) && Builtin.Range.rangeFitsLong (0 - 1) && Builtin.Range.rangeFitsLong (Builtin.Range.rangeSize 0 n 1)) = true := by
    rw [e1, fit 0 (by decide) (by decide), fit n (by omega) (by omega), fit 1 (by decide) (by decide), fit (-1) (by decide) (by decide), fit (0 - 1) (by decide) (by decide)]; rfl
  refine call_meets F.slot_range_reversed ⟨_, hr, rfl⟩ F.entry_range_reversed (F.args_range_reversed_1 _) (range_rev_meets r 0 n 1 t u v (by rw [sm]; decide)) ⟨hr, ?_⟩
  rw [if_pos sm, e1]
  have e2 : (0 : Int) + (n - 1) * 1 = n - 1 := by omega
  rw [e2]
  exact h
theorem code_reversed_rng {r : Addr} {n : Int} {t u v : Tok} {Q₁ : Value → Shared → Prop} (hr : s.heap.get? r = some { cls := .type "range", data := .fields #[.int 0 t, .int n u, .int 1 v] }) (h0 : 0 ≤ n) (h1 : n < 2 ^ 62)
    (h : Q₁ (.ref s.heap.objs.size) { s with heap := s.heap.push (revRng n) }) :
    codeAny (model prog w) A (.call (.builtin "reversed.__new__") ⟨[.type "reversed", .ref r], []⟩) (wants Q₁ E) s := by
  have hT : s.TypeIs (.ref r) "range" := ⟨_, hr, rfl⟩
  refine codeAny_of_tree ?_
  show wpAny _ A.in1 (do checkBuiltinCall "reversed.__new__" ⟨[.type "reversed", .ref r], []⟩; again (.builtin "reversed.__new__" ⟨[.type "reversed", .ref r], []⟩)) _ _ s
  refine wpAny_bind (wpAny_of_eq (F.newCall_reversed_1 _) (wpAny_pure ⟨plainId_quiet F.plain_reversed_new _, codeAny_builtin F.entry_reversed_new ?_⟩))
  rw [Around.under_plainId F.plain_reversed_new _]
  unfold Builtin.«reversed.__new__»
  refine wpAny_bind (wpAny_of_eq (newClass_reversed _) ?_)
  try dsimp only
  refine wpAny_bind (wpAny_of_eq (a := ()) (by first | rfl | kernel_rfl) ?_)
  refine wpAny_bind (wpAny_of_eq (a := ()) (by first | rfl | kernel_rfl) ?_)
  try dsimp only
  refine wpAny_bind (wpAny_specialOf hT F.slot_range_reversed.lookup ?_)
  try dsimp only
  refine wpAny_bind (wpAny_of_eq (F.slot_range_reversed.bind _) ?_)
  try dsimp only
  first
  | rw [if_neg (show ¬ ((Value.builtin "range.__reversed__" == Value.none) = true) from Bool.false_ne_true)]
  | (show wpAny _ _ (if (Value.builtin "range.__reversed__" == Value.none) = true then _ else _) _ _ _; rw [if_neg (show ¬ ((Value.builtin "range.__reversed__" == Value.none) = true) from Bool.false_ne_true)])
  refine wpAny_bind (wpAny_rule ?_)
  refine wpAny_bind (m := runValue (.call (.builtin "range.__reversed__") ⟨[.ref r], []⟩)) (show wpAny _ _ (call (.builtin "range.__reversed__") [.ref r]) _ _ _ from call_range_rev hr h0 h1 ?_)
  first
  | exact wpAny_pure h
  | exact wpAny_bind (wpAny_pure (wpAny_pure h))
theorem call_reversed_rng {r : Addr} {n : Int} {t u v : Tok} {Q : Value → Shared → Prop} (hr : s.heap.get? r = some { cls := .type "range", data := .fields #[.int 0 t, .int n u, .int 1 v] }) (h0 : 0 ≤ n) (h1 : n < 2 ^ 62)
    (h : Q (.ref s.heap.objs.size) { s with heap := s.heap.push (revRng n) }) : wpAny (model prog w) A (call (.type "reversed") [.ref r]) Q E s := by
  refine callType_other (U := "range_iterator") (Q₁ := fun obj s₁ => obj = .ref s.heap.objs.size ∧ s₁ = { s with heap := s.heap.push (revRng n) }) (by decide +kernel) F.create_reversed ⟨_, _, F.mro_reversed⟩ F.made_reversed sub_ri_reversed (F.typeCall_reversed_1 _) (code_reversed_rng hr h0 h1 ⟨rfl, rfl⟩) ?_
  rintro obj s₁ ⟨rfl, rfl⟩
  exact ⟨⟨_, Heap.get?_push_size _ rfl, rfl⟩, h⟩
end

/-- n - 1, n - 2, .. 0 -/
def Itv (n : Nat) : It := ⟨fun i _ => i < n, fun i H x H' => H' = H ∧ x = .int ((n : Int) - 1 - i), fun i _ => n ≤ i⟩
theorem turn_rev {P : Program} {w : World} {K : PySem.W.Frag} {tg : Expr} (it : Addr) (n : Nat) : Turn P w K tg (Itv n) [it] it (fun i h => IsRangeIter h it ((n : Int) - 1 + (i : Nat) * (-1)) ((n : Int) - (i : Nat)) (-1)) where
  mem := by simp
  obj := fun i h st b hb => by
    have e : b = it := by simpa using hb
    subst e
    exact ⟨_, st, fun v z => by
      have z' : Data.fields _ = Data.cell v := z
      cases z'⟩
  keep := fun i h h' st k => k it (by simp) _ st
  item := by
    intro X hP hw hK hc i pins s σ H E I hf st hg
    subst hP hw hK
    obtain ⟨f0, f1, f2, f3, f4, f5⟩ := hf it (by simp)
    have W := Walks.range (prog := X.prog) (w := X.w) (I.ok.hd hc) it ((n : Int) - 1) (-1) n
    refine wpAny_with_toks (n := 1) I.tk (W.item i s _ _ hg st fun v h' tk hv st' kk ht => ?_)
    have ht : 0 < tk := ht
    obtain ⟨t, rfl⟩ := hv
    have I1 : Inv X pins σ H { s with heap := h', toks := tk } := I.turned (fun b o hb e => kk b o (by simpa using hb) e) f0 f1 f3 f4 f5
    refine ⟨_, rfl, go_of (s := { s with heap := h', toks := tk }) (n := "range_iterator") st' rfl rfl (by decide) ⟨.int ((n : Int) - 1 - i), H, I1, ⟨t, ?_⟩, ⟨rfl, rfl⟩, st', fun b hb => (hf b hb).1⟩⟩
    have e : (n : Int) - 1 + (i : Int) * (-1) = (n : Int) - 1 - i := by omega
    rw [e]
  done := by
    intro X hP hw hK hc i pins s σ H E I hf st hg
    subst hP hw hK
    obtain ⟨f0, f1, f2, f3, f4, f5⟩ := hf it (by simp)
    exact wpAny_pyNext_range_end (I.ok.hd hc) st (by have : n ≤ i := hg; omega) fun h' eb => ⟨rfl, I.turned (t' := s.toks) (fun b o hb e => eb b o hb e) f0 f1 f3 f4 f5⟩
  self := fun _ _ _ _ _ st h => wpAny_pyIter_rangeiter st h
def iRevRng (ta : TA) : TI := fun σ H R => ta σ H fun vs H1 => ∃ n : Nat, vs = [.int n] ∧ (n : Int) < 2 ^ 62 ∧ R (Itv n) H1
theorem pi_revrange {X : Cx} {tg : Expr} {a : Expr} {ta : TA} {p p2 pos pos2 : Pos} (hg : Gl X "reversed") (hm : X.mg "reversed" = none) (hg2 : Gl X "range") (hm2 : X.mg "range" = none) (ha : PA X [a] ta)
    (hs : starEach [a] X.env = [(false, eval a X.env)] := by rfl) (hs2 : starEach [.Call (.Name "range" p2) [a] [] pos2] X.env = [(false, eval (.Call (.Name "range" p2) [a] [] pos2) X.env)] := by rfl) :
    PI X tg (.Call (.Name "reversed" p) [.Call (.Name "range" p2) [a] [] pos2] [] pos) (iRevRng ta) := by
  intro pins s σ H R I h
  refine Call_ (ld_blt I hg hm boot_reversed (PyProof.Rows.callWith_type1 (Calls.spliced_cons ?_) hs2 rfl))
  refine Call_ (ld_blt I hg2 hm2 boot_range (PyProof.Rows.callWith_type1 (thn (ha pos2 pins s σ H _ I h) fun us s1 ⟨vs, H1, I1, r1, q1⟩ => ?_) hs rfl))
  obtain ⟨n, e, q1, q⟩ := q1
  subst e
  cases r1 with
  | cons r rr =>
    cases rr
    obtain ⟨t, rfl⟩ := r
    refine call_range_1 (Calls.spliced_nil ?_)
    have I2 : Inv X pins σ H1 { s1 with heap := s1.heap.push { cls := .type "range", data := .fields #[.int 0 s1.toks, .int n t, .int 1 (s1.toks + 1)] }, toks := s1.toks + 1 + 1 } := I1.kept fun b o e => Heap.get?_push_of_some _ e
    refine call_reversed_rng (n := n) (Heap.get?_push_size _ rfl) (by omega) q1 ?_
    refine wpAny_pyIter_rangeiter (x := (n : Int) - 1) (left := n) (step := -1) (Heap.get?_push_size _ rfl) ?_
    refine ⟨_, [_], _, _, H1, rfl, I2.kept (t' := s1.toks + 1 + 1) fun b o e => Heap.get?_push_of_some _ e, turn_rev _ n, ?_, fun b hb => ?_, q⟩
    · have e1 : (n : Int) - 1 + ((0 : Nat) : Int) * (-1) = (n : Int) - 1 := by simp
      have e2 : (n : Int) - ((0 : Nat) : Int) = n := by simp
      rw [e1, e2]
      exact Heap.get?_push_size _ rfl
    · have e : b = (s1.heap.push { cls := .type "range", data := .fields #[.int 0 s1.toks, .int n t, .int 1 (s1.toks + 1)] }).objs.size := by simpa using hb
      subst e
      exact I2.fpOk (Nat.le_refl _) (I2.hok.fresh (Nat.le_refl _))
theorem st_rev {σ : St} {H : Hp} {ta : TA} {R : It → Hp → Prop} (h : ta σ H fun vs H1 => ∃ n : Nat, vs = [.int n] ∧ (n : Int) < 2 ^ 62 ∧ R (Itv n) H1) : iRevRng ta σ H R := h
theorem rev_for {g : TG} {tb : TS} {D : Ends} {σ : St} {H : Hp} {n : Nat} (hn : (n : Int) < 2 ^ 62) (Pv : Nat → St → Hp → Prop) (p0 : Pv 0 σ H)
    (hs : ∀ (i : Nat) σ H, i < n → Pv i σ H → g (.int ((n : Int) - 1 - i)) σ H fun σ2 H2 => tb { D with nx := Pv (i + 1), ct := Pv (i + 1), bk := D.nx } σ2 H2) (hd : ∀ σ H, Pv n σ H → D.nx σ H) :
    ∃ m : Nat, [V.int n] = [.int m] ∧ (m : Int) < 2 ^ 62 ∧ ForW g tb D σ (Itv m) H := by
  refine ⟨n, rfl, hn, fun i m σ H => m = n - i ∧ i ≤ n ∧ Pv i σ H, ⟨n, by simp, Nat.zero_le _, p0⟩, ?_⟩
  rintro i m σ H ⟨rfl, hi, p⟩
  by_cases hlt : i < n
  · refine .inr ⟨hlt, Pv (i + 1), fun σ' H' p' => ⟨n - (i + 1), by omega, rfl, hlt, p'⟩, fun x H' y => ?_⟩
    obtain ⟨e, y⟩ := y
    subst e y
    exact hs i σ _ hlt p
  · have e : i = n := by omega
    subst e
    exact .inl ⟨Nat.le_refl _, hd σ H p⟩

/-! ### stores and looks at dicts among them -/
section
variable {X : Cx}
def rSetA : TSet := fun o i v H Q => rSetL o i v H Q ∨ ∃ a H', o = .ref a ∧ DPut H a i v H' ∧ Q H'
theorem set_any' (hu : X.A.units + 1 < cLine) : PSet X rSetA := by
  intro pins s σ H o i v ov iv u Q I ro ri rv h
  rcases h with h | ⟨a, H', rfl, g, q⟩
  · exact set_list pins s σ H o i v ov iv u Q I ro ri rv h
  · cases ro
    exact d_setItem hu I g ri rv fun s' I' => ⟨H', I', q⟩
def rIxA (K : PySem.W.Frag) : R2 := rIx K
theorem ix_any' (hu : X.A.units + 1 < cLine) : IxR X (rIxA X.K) := ix_seq
def rInD (neg : Bool) : R2 := fun x y H Q => ∃ a o, y = .ref a ∧ DGet H a x o ∧ Q (.bl (if neg then !o.isSome else o.isSome)) H
def rInB (K : PySem.W.Frag) (neg : Bool) : R2 := fun x y H Q => rInA K neg x y H Q ∨ rInD neg x y H Q
theorem op_inB (hu : X.A.units + 1 < cLine) : OpR X (compareOp .In) (rInB X.K false) := by
  refine op_inA.or ?_
  intro pins s σ H x y v u Q I rx ry h
  obtain ⟨a, o, rfl, g, q⟩ := h
  cases ry
  exact d_in hu I g rx fun s' I' => ⟨.bl o.isSome, H, I', rfl, q⟩
theorem op_notinB (hu : X.A.units + 1 < cLine) : OpR X (compareOp .NotIn) (rInB X.K true) := by
  refine op_notinA.or ?_
  intro pins s σ H x y v u Q I rx ry h
  obtain ⟨a, o, rfl, g, q⟩ := h
  cases ry
  exact d_notIn hu I g rx fun s' I' => ⟨.bl (!o.isSome), H, I', rfl, q⟩
theorem m1 {o e : Expr} {m : Str} {apos cpos : Pos} (base : attributeBase o m X.env (eval o X.env) = eval o X.env := by rfl)
    (few : ((backTo cpos (starEach [e] X.env)).all (fun x => !x.1) && (backToKw cpos (keywordEach [] X.env)).all (fun x => x.1.isSome)
    && decide (([e] : List Expr).length + ([] : List Keyword).length + (if ([] : List Keyword).isEmpty then 0 else 1) < 30)) = true := by rfl) (line : (apos.endLine == cpos.line) = true := by rfl) (trees : backTo cpos (starEach [e] X.env) = [(false, eval e X.env)] := by rfl) : M1 X o m apos e cpos := ⟨base, few, line, trees⟩
/-! ### isinstance -/
def rIsi (K : PySem.W.Frag) : List V → Hp → VK → Prop := fun xs H Q => (∃ (x : V) (T : String) (t : Value) (b : Bool), xs = [x, .ty T] ∧ TyOf K H x t ∧ PySem.W.kitOne K t (.type T) = some b ∧ Q (.bl b) H) ∨
  ∃ (a : Addr) (ys : List V) (T : String) (b : Bool), xs = [.ref a, .ty T] ∧ SqT K H a ys ∧ PySem.W.kitOne K (.type "tuple") (.type T) = some b ∧ Q (.bl b) H
theorem call_isinstanceA : CallR X (.builtin "isinstance") (rIsi X.K) := by
  intro pins s σ H xs us Q I r h
  rcases h with ⟨x, T, t, b, rfl, ty, e, q⟩ | ⟨a, ys, T, b, rfl, hq, e, q⟩
  · obtain ⟨u, w', rfl, r1, r2⟩ := vals2 r
    cases r2
    exact wpAny_with_toks (n := 1) I.tk (isinst_ok I r1 ty e fun tk ht => ⟨.bl b, H, I.tok _ ht, rfl, q⟩)
  · obtain ⟨u, w', rfl, r1, r2⟩ := vals2 r
    cases r2
    cases r1
    obtain ⟨its, rv, pl, hz⟩ := I.tuple hq
    obtain ⟨o, h1, h2, _⟩ := pl
    exact wpAny_with_toks (n := 1) I.tk (PySem.W.kia_one PySem.W.kitx_tuple I.kIn ⟨o, h1, h2⟩ e (fun z => nomatch z) fun tk ht => ⟨.bl b, H, I.tok _ ht, rfl, q⟩)
theorem v_isi {K : PySem.W.Frag} {H : Hp} {Q : VK} {x : V} {T : String} {t : Value} {b : Bool} (ty : TyOf K H x t) (e : PySem.W.kitOne K t (.type T) = some b) (h : Q (.bl b) H) : rIsi K [x, .ty T] H Q := .inl ⟨x, T, t, b, rfl, ty, e, h⟩
theorem v_isiT {K : PySem.W.Frag} {H : Hp} {Q : VK} {a : Addr} {ys : List V} {T : String} {b : Bool} (hq : SqT K H a ys) (e : PySem.W.kitOne K (.type "tuple") (.type T) = some b) (h : Q (.bl b) H) : rIsi K [.ref a, .ty T] H Q := .inr ⟨a, ys, T, b, rfl, hq, e, h⟩
example (K : PySem.W.Frag) : PySem.W.kitOne K (.type "str") (.type "str") = some true := by rfl
example (K : PySem.W.Frag) : PySem.W.kitOne K (.type "bool") (.type "int") = some true := by rfl
example (K : PySem.W.Frag) : PySem.W.kitOne K (.type "int") (.type "bool") = some false := by rfl
example (K : PySem.W.Frag) : PySem.W.kitOne K (.type "list") (.type "list") = some true := by rfl
end
end L2

/-! TEXTS: replace of written texts, slices, signs walked, enumerate; isinstance -/
namespace L2
open PySem PySem.Spec PyProof.Rows PySem.SeqAt

/-! ### objects of an iterator turn, and a new object is laid -/
section
variable {X : Cx} {pins : List (Addr × Obj)} {σ : List (Option V)} {H : Hp} {s : Shared} {h' : Heap}
theorem Inv.turnLaid {a : Addr} {o : HO} {t' : Nat} {ch : List Addr} (I : Inv X pins σ H s) (hf : ∀ b ∈ ch, FpOk X pins H b)
    (k : ∀ b u, b ∉ ch → s.heap.get? b = some u → h'.get? b = some u) (hp : s.heap.objs.size ≤ a) (new : ObjOk X.prog X.w (upd H a o) h' a o) (ht : 0 < t') :
    Inv X pins σ (upd H a o) { s with heap := h', toks := t' } := by
  have hn : H a = none := I.hok.fresh hp
  have nit : ∀ b u, H b = some u → b ∉ ch := fun b u e z => by rw [(hf b z).1] at e; cases e
  have up : ∀ {b : Addr} {u : HO}, H b = some u → upd H a o b = some u := fun {b u} e => by rw [upd_ne (ne_of_none e hn)]; exact e
  have neA : ∀ b u, s.heap.get? b = some u → b ≠ a := fun b u e => Nat.ne_of_lt (Nat.lt_of_lt_of_le (Heap.lt_size e) hp)
  refine I.step (g' := s.gens) (d' := s.drawn) (ch := ch) (fun b hb => ?_) (fun b u _ _ hc e _ => k b u hc e) (fun b u _ _ hc e _ => ⟨u.slots, k b u hc e⟩) (fun b u _ e n => by rw [upd_ne (neA b u e)]; exact n)
    (fun b u hc e => ⟨u, k b u hc e⟩) (fun _ _ e => up e) (fun _ _ _ e => up e) (fun b ps e => ⟨#[], by rw [up e]; simp⟩) (fun m hm => ?_) (fun b u e => ?_) I.bare ht
  · obtain ⟨f0, f1, f2, f3, f4, f5⟩ := hf b hb
    exact ⟨f3, f1, f4, f5⟩
  · obtain ⟨ob, es, ep, ho, r⟩ := hm
    exact ⟨ob, es, ep, k _ ob (fun z => (hf _ z).2.1 rfl) ho, r⟩
  · by_cases hb : b = a
    · subst hb; rw [upd_same] at e; cases e; exact new
    · rw [upd_ne hb] at e
      refine (I.hok b u e).stay (fun c v hc q => k c v ?_ q) (fun _ q => up q) fun _ _ q => up q
      rcases hc with z | z
      · rw [z]; exact nit b u e
      · exact nit c _ z
end

/-! ### a walk of the library as a turn -/
/-- n items, each known by its place -/
def Itx (n : Nat) (V' : Nat → V → Prop) : It := ⟨fun i _ => i < n, fun i H x H' => H' = H ∧ V' i x, fun i _ => n ≤ i⟩
theorem turn_walks {P : Program} {w : World} {K : PySem.W.Frag} {tg : Expr} {it : Addr} {n : Nat} {Pv : Nat → Value → Prop} {St : Nat → Heap → Prop} {V' : Nat → V → Prop} {T : String} {vs : Nat → Array Value}
    (W : ∀ A : Around, A.handled = none → Walks P w A it [it] [it] n Pv St) (hV : ∀ i v, Pv i v → ∃ x, RelV x v ∧ V' i x)
    (hO : ∀ i h, St i h → ∃ o, h.get? it = some o ∧ o.cls = .type T ∧ o.data = .fields (vs i))
    (hT : ["enumerate", "zip", "dict_itemiterator", "dict_reverseitemiterator", "odict_iterator", "itertools.zip_longest", "itertools.pairwise"].contains T = false)
    (hS : ∀ (A : Around) (i : Nat) (s : Shared) (Q : Value → Shared → Prop) (E : Value → Shared → Prop), St i s.heap → Q (.ref it) s → wpAny (model P w) A (pyIter (.ref it)) Q E s) :
    Turn P w K tg (Itx n V') [it] it (fun i h => i ≤ n ∧ St i h) where
  mem := by simp
  obj := fun i h st b hb => by
    have e : b = it := by simpa using hb
    subst e
    obtain ⟨o, e, _, d⟩ := hO i h st.2
    exact ⟨o, e, fun v z => by rw [d] at z; cases z⟩
  keep := fun i h h' st k => ⟨st.1, (W {} rfl).frame i h h' st.2 k⟩
  item := by
    intro X hP hw hK hc i pins s σ H E I hf st hg
    subst hP hw hK
    obtain ⟨f0, f1, f2, f3, f4, f5⟩ := hf it (by simp)
    refine wpAny_with_toks (n := 1) I.tk ((W X.A (I.ok.hd hc)).item i s _ _ hg st.2 fun v h' tk hv st' kk ht => ?_)
    have ht : 0 < tk := ht
    obtain ⟨x, rx, vx⟩ := hV i v hv
    have I1 : Inv X pins σ H { s with heap := h', toks := tk } := I.turned (fun b o hb e => kk b o (by simpa using hb) e) f0 f1 f3 f4 f5
    obtain ⟨o, e, c, d⟩ := hO _ _ st'
    exact ⟨v, rfl, go_of (s := { s with heap := h', toks := tk }) e c d hT ⟨x, H, I1, rx, ⟨rfl, vx⟩, ⟨hg, st'⟩, fun b hb => (hf b hb).1⟩⟩
  done := by
    intro X hP hw hK hc i pins s σ H E I hf st hg
    subst hP hw hK
    obtain ⟨f0, f1, f2, f3, f4, f5⟩ := hf it (by simp)
    have hi : i = n := Nat.le_antisymm st.1 hg
    subst hi
    exact wpAny_with_toks (n := 1) I.tk ((W X.A (I.ok.hd hc)).done s _ _ st.2 fun h' tk eb ht => ⟨rfl, I.turned (fun b o hb e => eb b o (by simpa using hb) e) f0 f1 f3 f4 f5 ht⟩)
  self := fun A i s Q E st h => hS A i s Q E st.2 h

section
variable {X : Cx} {pins : List (Addr × Obj)} {σ : List (Option V)} {H : Hp} {s : Shared} {h' : Heap}
theorem Inv.turnedL {t' : Nat} {ch : List Addr} (I : Inv X pins σ H s) (hf : ∀ b ∈ ch, FpOk X pins H b) (k : ∀ b u, b ∉ ch → s.heap.get? b = some u → h'.get? b = some u) (ht : 0 < t') :
    Inv X pins σ H { s with heap := h', toks := t' } := by
  have nit : ∀ b u, H b = some u → b ∉ ch := fun b u e z => by rw [(hf b z).1] at e; cases e
  refine I.step (g' := s.gens) (d' := s.drawn) (ch := ch) (fun b hb => ?_) (fun b u _ _ hc e _ => k b u hc e) (fun b u _ _ hc e _ => ⟨u.slots, k b u hc e⟩) (fun _ _ _ _ n => n)
    (fun b u hc e => ⟨u, k b u hc e⟩) (fun _ _ e => e) (fun _ _ _ e => e) (fun b ps e => ⟨#[], by rw [e]; simp⟩) (fun m hm => ?_) (fun b u e => ?_) I.bare ht
  · obtain ⟨f0, f1, f2, f3, f4, f5⟩ := hf b hb
    exact ⟨f3, f1, f4, f5⟩
  · obtain ⟨ob, es, ep, ho, r⟩ := hm
    exact ⟨ob, es, ep, k _ ob (fun z => (hf _ z).2.1 rfl) ho, r⟩
  · refine (I.hok b u e).stay (fun c v hc q => k c v ?_ q) (fun _ q => q) fun _ _ q => q
    rcases hc with z | z
    · rw [z]; exact nit b u e
    · exact nit c _ z
end

/-- n items, each a new tuple -/
def Itp (n : Nat) (V' : Nat → List V → Prop) : It := ⟨fun i _ => i < n, fun i H x H' => ∃ p xs, x = .ref p ∧ H p = none ∧ V' i xs ∧ H' = upd H p (.tup xs), fun i _ => n ≤ i⟩
theorem turn_walksT {P : Program} {w : World} {K : PySem.W.Frag} {elts : List Expr} {k : Nat} {pos : Pos} {it : Addr} {fp wr : List Addr} {n : Nat} {Pt : Nat → Array Value → Prop} {St : Nat → Heap → Prop} {Mid : Nat → Addr → Heap → Prop} {V' : Nat → List V → Prop}
    (W : ∀ A : Around, A.handled = none → WalksT P w A it fp wr n Pt St Mid) (hmem : it ∈ fp) (hV : ∀ i vs, Pt i vs → ∃ xs, Vals xs vs.toList ∧ V' i xs ∧ xs.length ≤ 64)
    (hO : ∀ i h, St i h → ∀ b ∈ fp, ∃ o, h.get? b = some o ∧ ∀ v, o.data ≠ .cell v)
    (hS : ∀ (A : Around) (i : Nat) (s : Shared) (Q : Value → Shared → Prop) (E : Value → Shared → Prop), St i s.heap → Q (.ref it) s → wpAny (model P w) A (pyIter (.ref it)) Q E s) :
    Turn P w K (.Tuple elts k pos) (Itp n V') fp it (fun i h => i ≤ n ∧ St i h) where
  mem := hmem
  obj := fun i h st b hb => hO i h st.2 b hb
  keep := fun i h h' st kk => ⟨st.1, (W {} rfl).frame i h h' st.2 kk⟩
  item := by
    intro X hP hw hK hc i pins s σ H E I hf st hg
    subst hP hw hK
    have W := W X.A (I.ok.hd hc)
    refine wpAny_with_toks (n := 1) I.tk (W.item i s _ _ hg st.2 fun T vs h' tk hv hT htup hmid kk ht => ?_)
    have ht : 0 < tk := ht
    obtain ⟨xs, rx, vx, hz⟩ := hV i vs hv
    have hap := W.apart i T h' hmid
    refine ⟨_, rfl, W.go elts k pos i T { s with heap := h', toks := tk } _ _ hmid fun h2 st2 k2 => ?_⟩
    have htup2 : IsTup h2 T vs.toList.toArray := by
      obtain ⟨o, e, c⟩ := htup
      exact ⟨o, k2 T o hap e, by simpa using c⟩
    have I1 : Inv X pins σ (upd H T (.tup xs)) { s with heap := h2, toks := tk } := I.turnLaid (ch := wr) (fun b hb => hf b (W.sub b hb)) (fun b u hb e => k2 b u hb (kk b u hb e)) hT ⟨by rw [sizeLine_eq]; omega, vs.toList, rx, htup2⟩ ht
    refine ⟨.ref T, _, I1, rfl, ⟨T, xs, rfl, I.hok.fresh hT, vx, rfl⟩, ⟨hg, st2⟩, fun b hb => ?_⟩
    obtain ⟨o, e, _⟩ := hO i _ st.2 b hb
    rw [upd_ne (Nat.ne_of_lt (Nat.lt_of_lt_of_le (Heap.lt_size e) hT))]
    exact (hf b hb).1
  done := by
    intro X hP hw hK hc i pins s σ H E I hf st hg
    subst hP hw hK
    have W := W X.A (I.ok.hd hc)
    have hi : i = n := Nat.le_antisymm st.1 hg
    subst hi
    exact wpAny_with_toks (n := 1) I.tk (W.done s _ _ st.2 fun h' tk eb ht => ⟨rfl, I.turnedL (ch := wr) (fun b hb => hf b (W.sub b hb)) eb ht⟩)
  self := fun A i s Q E st h => hS A i s Q E st.2 h

/-! ### the signs of a text -/
theorem draws_str {P : Program} {w : World} {A : Around} (hh : A.handled = none) (it : Addr) (x : Str) (t : Tok) :
    Draws P w A it [it] x.cps.size (fun i v => ∃ c u, x.cps[i]? = some c ∧ v = .str ⟨#[c]⟩ u) (fun i h => h.IsStrIter it (strIterType x) x t i) := by
  unfold strIterType
  split
  · exact Draws.strAscii hh it x t
  · exact Draws.strWide hh it x t
theorem walks_str {P : Program} {w : World} {A : Around} (hh : A.handled = none) (it : Addr) (x : Str) (t : Tok) : Walks P w A it [it] [it] x.cps.size (SignAt x) (fun i h => h.IsStrIter it (strIterType x) x t i) := by
  unfold strIterType
  split
  · exact Walks.strAscii hh it x t
  · exact Walks.strWide hh it x t
theorem pyIter_strI {P : Program} {w : World} {A : Around} {E : Value → Shared → Prop} {s : Shared} {it : Addr} {x : Str} {t : Tok} {i : Nat} {Q : Value → Shared → Prop} (hit : s.heap.IsStrIter it (strIterType x) x t i) (h : Q (.ref it) s) :
    wpAny (model P w) A (pyIter (.ref it)) Q E s := by
  unfold strIterType at hit
  split at hit
  · exact wpAny_pyIter_striter_ascii hit h
  · exact wpAny_pyIter_striter_wide hit h
def signV (z : Str) (i : Nat) (x : V) : Prop := ∃ c, z.cps.toList[i]? = some c ∧ x = .str ⟨#[c]⟩
theorem signAt_V {z : Str} (i : Nat) (v : Value) (h : SignAt z i v) : ∃ x, RelV x v ∧ signV z i x := by
  obtain ⟨c, u, e, rfl⟩ := h
  exact ⟨.str ⟨#[c]⟩, ⟨u, rfl⟩, c, by simpa using e, rfl⟩
theorem turn_str {P : Program} {w : World} {K : PySem.W.Frag} {tg : Expr} (it : Addr) (z : Str) (t : Tok) : Turn P w K tg (Itx z.cps.size (signV z)) [it] it (fun i h => i ≤ z.cps.size ∧ h.IsStrIter it (strIterType z) z t i) := by
  refine turn_walks (T := strIterType z) (vs := fun i => #[.str z t, .int i 0]) (fun A hA => walks_str hA it z t) signAt_V (fun i h st => ?_) ?_ (fun A i s Q E st h => pyIter_strI st h)
  · obtain ⟨o, e, c, d⟩ := st
    exact ⟨o, e, c, d⟩
  · unfold strIterType
    split <;> decide
/-- for x in e, e a text -/
def iStr (tl : TE) : TI := fun σ H R => tl σ H fun x H1 => ∃ z, x = .str z ∧ R (Itx z.cps.size (signV z)) H1
theorem pi_strs {X : Cx} {tg l : Expr} {tl : TE} (hl : PE X l tl) : PI X tg l (iStr tl) := by
  intro pins s σ H R I h
  refine thn (hl pins s σ H _ I h) fun v s1 ⟨x, H1, I1, r1, q1⟩ => ?_
  obtain ⟨z, e, q⟩ := q1
  subst e
  obtain ⟨t, rfl⟩ := r1
  refine wpAny_pyIter_strU ?_
  refine ⟨s1.heap.objs.size, [s1.heap.objs.size], _, _, H1, rfl, I1.kept (t' := s1.toks) fun b o e => Heap.get?_push_of_some _ e, turn_str _ z t, ⟨Nat.zero_le _, _, Heap.get?_push_size _ rfl, rfl, rfl⟩, fun b hb => ?_, q⟩
  have e : b = s1.heap.objs.size := by simpa using hb
  subst e
  exact I1.fpOk (Nat.le_refl _) (I1.hok.fresh (Nat.le_refl _))
/-- enumerate(e), e a text -/
def iEnumS (ta : TA) : TI := fun σ H R => ta σ H fun vs H1 => ∃ z, vs = [.str z] ∧ R (Itp z.cps.size fun i xs => ∃ c, z.cps.toList[i]? = some c ∧ xs = [.int i, .str ⟨#[c]⟩]) H1
theorem pi_enumS {X : Cx} {elts : List Expr} {k : Nat} {tpos p pos : Pos} {l : Expr} {ta : TA} (hg : Gl X "enumerate") (hm : X.mg "enumerate" = none) (ha : PA X [l] ta) (hs : starEach [l] X.env = [(false, eval l X.env)] := by rfl) :
    PI X (.Tuple elts k tpos) (.Call (.Name "enumerate" p) [l] [] pos) (iEnumS ta) := by
  intro pins s σ H R I h
  refine Call_ (ld_blt I hg hm boot_enumerate (PyProof.Rows.callWith_type1 (thn (ha pos pins s σ H _ I h) fun us s1 ⟨vs, H1, I1, r1, q1⟩ => ?_) hs rfl))
  obtain ⟨z, e, q⟩ := q1
  subst e
  obtain ⟨v, rfl, rv⟩ := vals1 r1
  obtain ⟨t, rfl⟩ := rv
  refine call_enumerate_str fun h' he hit hz hk => ?_
  have I2 : Inv X pins σ H1 { s1 with heap := h' } := I1.kept (t' := s1.toks) hk
  refine wpAny_pyIter_enum he ?_
  have ne : s1.heap.objs.size + 1 ≠ s1.heap.objs.size := by omega
  refine ⟨s1.heap.objs.size + 1, _, _, _, H1, rfl, I2, turn_walksT (V' := fun i xs => ∃ c, z.cps.toList[i]? = some c ∧ xs = [.int i, .str ⟨#[c]⟩]) (fun A hA => WalksT.enumerateD (draws_str (show A.in1.handled = none from hA) s1.heap.objs.size z t) (s1.heap.objs.size + 1) ne (by simpa using ne) (by simp)) (by simp) ?_ ?_ ?_, ⟨Nat.zero_le _, ⟨_, he⟩, hit⟩, fun b hb => ?_, q⟩
  · rintro i vs ⟨t1, v, ⟨c, u, e, rfl⟩, rfl⟩
    exact ⟨[.int i, .str ⟨#[c]⟩], .cons ⟨t1, rfl⟩ (.cons ⟨u, rfl⟩ .nil), ⟨c, by simpa using e, rfl⟩, by simp⟩
  · rintro i h ⟨⟨old, e1⟩, o2, e2, _, d2⟩ b hb
    have hb : b = s1.heap.objs.size + 1 ∨ b = s1.heap.objs.size := by simpa using hb
    rcases hb with rfl | rfl
    · exact ⟨_, e1, fun v z => by cases (show Data.fields _ = Data.cell v from z)⟩
    · exact ⟨_, e2, fun v z => by rw [d2] at z; cases z⟩
  · rintro A i s Q E ⟨⟨old, e1⟩, _⟩ h
    exact wpAny_pyIter_enum e1 h
  · have hb : b = s1.heap.objs.size + 1 ∨ b = s1.heap.objs.size := by simpa using hb
    rcases hb with rfl | rfl
    · exact I1.fpOk (Nat.le_succ _) (I1.hok.fresh (Nat.le_succ _))
    · exact I1.fpOk (Nat.le_refl _) (I1.hok.fresh (Nat.le_refl _))

/-! ### replace with written texts -/
def tRepl (te : TE) (y z : Str) : TE := fun σ H Q => te σ H fun x H1 => ∃ a, x = .str a ∧ a.length ≤ 1048576 ∧ Q (.str (PySem.Txt.replace a y z)) H1
theorem pe_repl {X : Cx} {o : Expr} {y z : Str} {j1 j2 : Nat} {p1 p2 apos cpos : Pos} {te : TE} (ho : PE X o te) (hz : z.length ≤ 14 := by decide) (hyz : (y == z) = false := by decide)
    (hbase : attributeBase o "replace" X.env (eval o X.env) = eval o X.env := by rfl)
    (hfew : ((backTo cpos (starEach [.Constant (.str y) j1 p1, .Constant (.str z) j2 p2] X.env)).all (fun x => !x.1) && (backToKw cpos (keywordEach [] X.env)).all (fun x => x.1.isSome)
      && decide (([.Constant (.str y) j1 p1, .Constant (.str z) j2 p2] : List Expr).length + ([] : List Keyword).length + (if ([] : List Keyword).isEmpty then 0 else 1) < 30)) = true := by rfl)
    (hline : (apos.endLine == cpos.line) = true := by rfl) (hs : starEach [.Constant (.str y) j1 p1, .Constant (.str z) j2 p2] X.env = [(false, eval (.Constant (.str y) j1 p1) X.env), (false, eval (.Constant (.str z) j2 p2) X.env)] := by rfl) :
    PE X (.Call (.Attribute o "replace" apos) [.Constant (.str y) j1 p1, .Constant (.str z) j2 p2] [] cpos) (tRepl te y z) := by
  intro pins s σ H Q I h
  refine wpAny_Call_method_late hbase hfew hline rfl (thn (ho pins s σ H _ I h) fun v s1 ⟨x, H1, I1, r1, q1⟩ => ?_)
  obtain ⟨a, rfl, hl, q⟩ := q1
  obtain ⟨h1, h2⟩ := tyV_is (T := "str") I1 r1 (show tyV X.K "str" (.str a) H1 from rfl)
  refine ⟨"str", "str.replace", PySem.F.plainAttrs_str, PySem.F.slot_str_replace, PySem.F.type_str_replace, h1, h2, ?_⟩
  obtain ⟨t, rfl⟩ := r1
  rw [hs]
  refine Calls.callWith_builtin rfl (Calls.evalArgs_plain ?_)
  refine Calls.spliced_cons (Calls.Constant_str (k := j1) (pos := p1) (Calls.spliced_cons (Calls.Constant_str (k := j2) (pos := p2) (Calls.spliced_nil ?_))))
  exact wpAny_with_toks (n := 1) (s := { s1 with toks := s1.toks + 1 + 1 }) (Nat.succ_pos _) (PySem.SC.replaceW (Nat.ne_of_gt I1.tk) (Nat.succ_ne_zero _) (by show s1.toks ≠ s1.toks + 1; omega) hyz hl hz fun t' k ht => ⟨.str _, H1, I1.tok _ ht, ⟨_, rfl⟩, q⟩)

/-! ### slices of a text -/
def cutS (x : Str) (lo hi : Option Int) : Str := ⟨((x.cps.toList.drop (HT.sIx x.cps.toList.length 0 lo)).take (HT.sIx x.cps.toList.length x.cps.toList.length hi - HT.sIx x.cps.toList.length 0 lo)).toArray⟩
def rSlS : V → Option Int → Option Int → Hp → VK → Prop := fun x lo hi H Q => ∃ z, x = .str z ∧ z.length ≤ sizeLine ∧ Q (.str (cutS z lo hi)) H
theorem pick_cutS (x : Str) (lo hi : Option Int) : (⟨((Builtin.Str.strSliceIndices lo hi 1 x.length).filterMap (x.cps[·]?)).toArray⟩ : Str) = cutS x lo hi := by
  obtain ⟨h1, h2, h3⟩ := slice_bounds lo hi x.length
  have e : Builtin.Str.strSliceIndices lo hi 1 x.length = sliceRange (sliceBounds lo hi none x.length).1 (sliceBounds lo hi none x.length).2.1 (sliceBounds lo hi none x.length).2.2 := rfl
  rw [e, h1, h2, h3]
  unfold cutS
  rw [sliceRange_one, pick_run]
  rfl
theorem sIx_le (n d : Nat) (o : Option Int) (h : d ≤ n) : HT.sIx n d o ≤ n := by
  cases o with
  | none => exact h
  | some v =>
    show (if v < 0 then (v + (n : Int)).toNat else min v.toNat n) ≤ n
    split <;> omega
theorem sl_str {X : Cx} : SlR X rSlS := by
  intro pins s σ H x v vl vu lo hi sl Q I rx hs pl pu h
  obtain ⟨z, rfl, hz, q⟩ := h
  obtain ⟨t, rfl⟩ := rx
  refine ⟨"str", _, PySem.F.slot_str_getitem.lookup, typeIs_str _ _ _, ?_⟩
  have part : ∀ {v : Value} {k : Option Int}, IsPart v k → ∃ l : Option (Int × Tok), v = partValue l ∧ l.map (·.1) = k := fun {v k} h => by
    cases h with
    | none => exact ⟨none, rfl, rfl⟩
    | int i t => exact ⟨some (i, t), rfl, rfl⟩
  obtain ⟨l, rfl, el⟩ := part pl
  obtain ⟨u, rfl, eu⟩ := part pu
  refine wpAny_getItem_str_slice (l := l) (u := u) (st := none) hs rfl ?_
  have ep : slicePicked z l u none = Builtin.Str.strSliceIndices lo hi 1 z.length := by unfold slicePicked; rw [el, eu]; rfl
  have ec := pick_cutS z lo hi
  unfold sliceMade
  rw [ep]
  split
  · rename_i hc
    have hlen : (Builtin.Str.strSliceIndices lo hi 1 z.length).length = z.length := by simpa using hc
    have : cutS z lo hi = z := by
      obtain ⟨h1, h2, h3⟩ := slice_bounds lo hi z.length
      have e : Builtin.Str.strSliceIndices lo hi 1 z.length = sliceRange (sliceBounds lo hi none z.length).1 (sliceBounds lo hi none z.length).2.1 (sliceBounds lo hi none z.length).2.2 := rfl
      rw [e, h1, h2, h3, sliceRange_one, List.length_map, List.length_range] at hlen
      have hb := sIx_le z.length z.length hi (Nat.le_refl _)
      have el : z.cps.toList.length = z.length := Array.length_toList
      obtain ⟨⟨l⟩⟩ := z
      unfold cutS
      rw [el, hlen]
      by_cases h0 : HT.sIx (Str.length ⟨⟨l⟩⟩) 0 lo = 0
      · rw [h0, List.drop_zero, List.take_of_length_le (Nat.le_of_eq el)]
      · have : Str.length ⟨⟨l⟩⟩ = 0 := by omega
        rw [this, List.take_zero]
        have : l = [] := List.eq_nil_of_length_eq_zero (by rw [← this]; exact el.symm ▸ rfl)
        rw [this]
    rw [this] at q
    exact ⟨.str z, H, I, ⟨_, rfl⟩, q⟩
  · rw [ec]
    refine ⟨?_, .str _, H, I.tok _, ⟨_, rfl⟩, q⟩
    have : (cutS z lo hi).length ≤ z.length := by
      unfold cutS Str.length
      simp only [List.size_toArray, List.length_take, List.length_drop, Array.length_toList]
      omega
    omega

def rSlA (K : PySem.W.Frag) : V → Option Int → Option Int → Hp → VK → Prop := fun x lo hi H Q => rSlS x lo hi H Q ∨ rSlT K x lo hi H Q ∨ rSlL K x lo hi H Q
theorem sl_any {X : Cx} : SlR X (rSlA X.K) := sl_str.or (sl_tup.or sl_list)
section
variable {K : PySem.W.Frag} {σ : St} {H : Hp} {Q : VK}
theorem v_slS {z : Str} {lo hi : Option Int} (hz : z.length ≤ sizeLine) (h : Q (.str (cutS z lo hi)) H) : rSlA K (.str z) lo hi H Q := .inl ⟨z, rfl, hz, h⟩
theorem v_slL {a : Addr} {xs : List V} {lo hi : Option Int} (hx : SqL K H a xs) (h : ∀ p, H p = none → Q (.ref p) (upd H p (.lst (cutV xs lo hi)))) : rSlA K (.ref a) lo hi H Q := .inr (.inr ⟨a, xs, rfl, hx, h⟩)
theorem st_sl {r : V → Option Int → Option Int → Hp → VK → Prop} {te : TE} {tl th : TO} (h : te σ H fun x H1 => tl σ H1 fun l H2 => th σ H2 fun u H3 => r x l u H3 Q) : tSl r te tl th σ H Q := h
theorem st_part {t : TE} {R : Option Int → Hp → Prop} (h : t σ H fun x H1 => ∃ i, x = .int i ∧ R (some i) H1) : tPart t σ H R := h
theorem st_nopart {R : Option Int → Hp → Prop} (h : R none H) : tNoPart σ H R := h
theorem st_int {i : Int} {R : Int → Prop} (h : R i) : ∃ j, V.int i = .int j ∧ R j := ⟨i, rfl, h⟩
theorem st_repl {te : TE} {y z : Str} (h : te σ H fun x H1 => ∃ a, x = .str a ∧ a.length ≤ 1048576 ∧ Q (.str (PySem.Txt.replace a y z)) H1) : tRepl te y z σ H Q := h
theorem st_enumS {ta : TA} {R : It → Hp → Prop} (h : ta σ H fun vs H1 => ∃ z, vs = [.str z] ∧ R (Itp z.cps.size fun i xs => ∃ c, z.cps.toList[i]? = some c ∧ xs = [.int i, .str ⟨#[c]⟩]) H1) : iEnumS ta σ H R := h
theorem st_iStr {tl : TE} {R : It → Hp → Prop} (h : tl σ H fun x H1 => ∃ z, x = .str z ∧ R (Itx z.cps.size (signV z)) H1) : iStr tl σ H R := h
theorem str_for {g : TG} {tb : TS} {D : Ends} {z : Str} (Pv : Nat → St → Hp → Prop) (p0 : Pv 0 σ H)
    (hs : ∀ (i c : Nat) σ H, z.cps.toList[i]? = some c → Pv i σ H → g (.str ⟨#[c]⟩) σ H fun σ2 H2 => tb { D with nx := Pv (i + 1), ct := Pv (i + 1), bk := D.nx } σ2 H2) (hd : ∀ σ H, Pv z.cps.size σ H → D.nx σ H) :
    ∃ z', V.str z = .str z' ∧ ForW g tb D σ (Itx z'.cps.size (signV z')) H := by
  refine ⟨z, rfl, fun i m σ H => m = z.cps.size - i ∧ i ≤ z.cps.size ∧ Pv i σ H, ⟨z.cps.size, by simp, Nat.zero_le _, p0⟩, ?_⟩
  rintro i m σ H ⟨rfl, hi, p⟩
  by_cases hlt : i < z.cps.size
  · refine .inr ⟨hlt, Pv (i + 1), fun σ' H' p' => ⟨z.cps.size - (i + 1), by omega, rfl, hlt, p'⟩, fun x H' y => ?_⟩
    obtain ⟨rfl, c, ec, rfl⟩ := y
    exact hs i c σ _ ec p
  · have e : i = z.cps.size := by omega
    subst e
    exact .inl ⟨Nat.le_refl _, hd σ H p⟩
theorem enumS_comp {g : TG} {tt : TT} {te : TE} {σ' : St} {z : Str} (Pv : Nat → List V → Hp → Prop) (h0 : Pv 0 [] H) (hlen : ∀ i ys H, i ≤ z.cps.size → Pv i ys H → ys.length ≤ sizeLine)
    (hs : ∀ (i c : Nat) (p : Addr) ys H, z.cps.toList[i]? = some c → H p = none → Pv i ys H → g (.ref p) σ' (upd H p (.tup [.int i, .str ⟨#[c]⟩])) fun σ2 H2 => tt σ2 H2 fun b H3 => if b = true then te σ2 H3 fun y H4 => Pv (i + 1) (ys ++ [y]) H4 else Pv (i + 1) ys H3)
    (hd : ∀ ys H, Pv z.cps.size ys H → ∀ p, H p = none → Q (.ref p) (upd H p (.lst ys))) :
    ∃ z', [V.str z] = [.str z'] ∧ CompW g tt te σ' Q (Itp z'.cps.size fun i xs => ∃ c, z'.cps.toList[i]? = some c ∧ xs = [.int i, .str ⟨#[c]⟩]) H := by
  refine ⟨z, rfl, fun i m ys H => m = z.cps.size - i ∧ i ≤ z.cps.size ∧ Pv i ys H, ⟨z.cps.size, by simp, Nat.zero_le _, h0⟩, ?_⟩
  rintro i m ys H ⟨rfl, hi, p⟩
  refine ⟨hlen i ys H hi p, ?_⟩
  by_cases hlt : i < z.cps.size
  · refine .inr ⟨hlt, Pv (i + 1), fun ys' H' p' => ⟨z.cps.size - (i + 1), by omega, rfl, hlt, p'⟩, fun x H' y => ?_⟩
    obtain ⟨a, xs, rfl, ha, ⟨c, ec, rfl⟩, rfl⟩ := y
    exact hs i c a ys H ec ha p
  · have e : i = z.cps.size := by omega
    subst e
    exact .inl ⟨Nat.le_refl _, hd ys H p⟩
theorem v_eqS {x y : Str} (h : Q (.bl (decide (x = y))) H) : rEqA K (.str x) (.str y) H Q := by
  refine v_eq rfl ?_
  have e : (decide ((V.str x) = V.str y)) = decide (x = y) := by simp
  rw [e]; exact h
theorem v_neS {x y : Str} (h : Q (.bl (!decide (x = y))) H) : rNeA K (.str x) (.str y) H Q := by
  refine v_ne rfl ?_
  have e : (decide ((V.str x) = V.str y)) = decide (x = y) := by simp
  rw [e]; exact h
theorem v_eqI {x y : Int} (h : Q (.bl (decide (x = y))) H) : rEqA K (.int x) (.int y) H Q := by
  refine v_eq rfl ?_
  have e : (decide ((V.int x) = V.int y)) = decide (x = y) := by simp
  rw [e]; exact h
theorem v_neI {x y : Int} (h : Q (.bl (!decide (x = y))) H) : rNeA K (.int x) (.int y) H Q := by
  refine v_ne rfl ?_
  have e : (decide ((V.int x) = V.int y)) = decide (x = y) := by simp
  rw [e]; exact h
end

/-! ### many written texts -/
def tStrs (xs : List Str) : TA := fun _ H R => R (strV xs) H
theorem pa_strs {X : Cx} (xs : List (Str × Nat × Pos)) : PA X (xs.map fun y => Expr.Constant (.str y.1) y.2.1 y.2.2) (tStrs (xs.map (·.1))) := by
  induction xs with
  | nil => exact pa_nil
  | cons y r ih => exact pa_cons (te := tC (.str y.1)) pe_str ih
theorem pe_lstS {X : Cx} {es : List Expr} {pos : Pos} (xs : List (Str × Nat × Pos)) (ss : List Str) (he : es = xs.map fun y => Expr.Constant (.str y.1) y.2.1 y.2.2) (hs : ss = xs.map (·.1)) : PE X (.List es pos) (tLst (tStrs ss)) := by
  subst he hs
  exact pe_lst (pa_strs xs)
theorem pa_s0 {X : Cx} : PA X [] (tStrs []) := pa_nil
theorem pa_s1 {X : Cx} {es : List Expr} {xs : List Str} {x : Str} {j : Nat} {p : Pos} (h : PA X es (tStrs xs)) : PA X (.Constant (.str x) j p :: es) (tStrs (x :: xs)) := pa_cons (te := tC (.str x)) pe_str h
theorem st_strs {σ : St} {H : Hp} {xs : List Str} {R : List V → Hp → Prop} (h : R (strV xs) H) : tStrs xs σ H R := h
/-! ### find, startswith -/
def rFindS : V → List V → Hp → VK → Prop := fun x vs H Q => ∃ z y : Str, x = .str z ∧ vs = [.str y] ∧ Q (.int (PySem.Txt.find z y)) H
theorem mt_find {X : Cx} : MtR X "str.find" rFindS := by
  intro pins s σ H x vs v us Q I rx rv h
  obtain ⟨z, y, rfl, rfl, q⟩ := h
  obtain ⟨t, rfl⟩ := rx
  obtain ⟨u, rfl, ru⟩ := rv.one
  obtain ⟨t', rfl⟩ := ru
  exact SC.find ⟨.int _, H, I.tok _, ⟨_, rfl⟩, q⟩
end L2

/-! find and startswith from a place, all and any of truths, comprehensions over a text's signs -/
namespace L2
open PySem PySem.Spec PyProof.Rows PySem.SeqAt PySem.Builtin PySem.Builtin.Str

def find4 (x y : Str) (i j : Int) : Int := match occurrences x y (fromIndex x.length i) (min (fromIndex x.length j) x.length) 1 with | k :: _ => (k : Int) | [] => -1
theorem gives_find4 (x y : Str) (i j : Int) (t u v v' : Tok) : Gives («str.find» ⟨[.str x t, .str y u, .int i v, .int j v'], []⟩) (.int (find4 x y i j)) := by
  unfold find4
  show Gives (match occurrences x y (fromIndex x.length i) (min (fromIndex x.length j) x.length) 1 with | k :: _ => retInt k | [] => (do rule "str.find.not-found"; retInt (-1))) _
  cases occurrences x y (fromIndex x.length i) (min (fromIndex x.length j) x.length) 1 with
  | nil => exact .rule (.of_eq rfl)
  | cons k _ => exact .of_eq rfl
section
variable {X : Cx}
theorem Vals.three {x y z : V} {us : List Value} (r : Vals [x, y, z] us) : ∃ u v w', us = [u, v, w'] ∧ RelV x u ∧ RelV y v ∧ RelV z w' := by
  cases r with
  | cons r1 r2 => obtain ⟨v, w', rfl, a, b⟩ := vals2 r2; exact ⟨_, _, _, rfl, r1, a, b⟩
def rFind3 : V → List V → Hp → VK → Prop := fun x vs H Q => ∃ (z y : Str) (i : Int), x = .str z ∧ vs = [.str y, .int i] ∧ Q (.int (PySem.Txt.find3 z y i)) H
theorem mt_find3 : MtR X "str.find" rFind3 := by
  intro pins s σ H x vs v us Q I rx rv h
  obtain ⟨z, y, i, rfl, rfl, q⟩ := h
  obtain ⟨t, rfl⟩ := rx
  obtain ⟨u, w', rfl, ⟨t1, rfl⟩, ⟨t2, rfl⟩⟩ := vals2 rv
  exact SC.find3 ⟨.int _, H, I.tok _, ⟨_, rfl⟩, q⟩
def rFind4 : V → List V → Hp → VK → Prop := fun x vs H Q => ∃ (z y : Str) (i j : Int), x = .str z ∧ vs = [.str y, .int i, .int j] ∧ Q (.int (find4 z y i j)) H
theorem mt_find4 : MtR X "str.find" rFind4 := by
  intro pins s σ H x vs v us Q I rx rv h
  obtain ⟨z, y, i, j, rfl, rfl, q⟩ := h
  obtain ⟨t, rfl⟩ := rx
  obtain ⟨u, w', w2, rfl, ⟨t1, rfl⟩, ⟨t2, rfl⟩, ⟨t3, rfl⟩⟩ := Vals.three rv
  exact call_gives F.slot_str_find (typeIs_str _ _ _) F.entry_str_find (F.args_str_find_4 _ _ _ _) (gives_find4 z y i j t t1 t2 t3) ⟨.int _, H, I.tok _, ⟨_, rfl⟩, q⟩
def rStart3 : V → List V → Hp → VK → Prop := fun x vs H Q => ∃ (z y : Str) (i : Int), x = .str z ∧ vs = [.str y, .int i] ∧ Q (.bl (PySem.Txt.startswith3 z y i)) H
theorem mt_start3 : MtR X "str.startswith" rStart3 := by
  intro pins s σ H x vs v us Q I rx rv h
  obtain ⟨z, y, i, rfl, rfl, q⟩ := h
  obtain ⟨t, rfl⟩ := rx
  obtain ⟨u, w', rfl, ⟨t1, rfl⟩, ⟨t2, rfl⟩⟩ := vals2 rv
  exact SC.startswith3 ⟨.bl _, H, I, rfl, q⟩

theorem blVals : ∀ {bs : List Bool} {us : List Value}, Vals (bs.map V.bl) us → us = bs.map Value.bool
  | [], _, h => by cases h; rfl
  | b :: bs, _, h => by
    have h : Vals (V.bl b :: bs.map V.bl) _ := h
    cases h with
    | cons r t => rw [blVals t]; cases (show _ = Value.bool b from r); rfl
theorem range_all (bs : List Bool) : (List.range bs.length).all (fun i => (bs[i]?).getD false) = bs.all id := by
  rw [Bool.eq_iff_iff, List.all_eq_true, List.all_eq_true]
  constructor
  · intro h b hb
    obtain ⟨i, hi, e⟩ := List.getElem_of_mem hb
    have := h i (List.mem_range.mpr hi)
    rw [List.getElem?_eq_getElem hi, e] at this
    exact this
  · intro h i hi
    have hi := List.mem_range.mp hi
    rw [List.getElem?_eq_getElem hi]
    exact h _ (List.getElem_mem hi)
theorem range_any (bs : List Bool) : (List.range bs.length).any (fun i => (bs[i]?).getD false) = bs.any id := by
  rw [Bool.eq_iff_iff, List.any_eq_true, List.any_eq_true]
  constructor
  · rintro ⟨i, hi, h⟩
    have hi := List.mem_range.mp hi
    rw [List.getElem?_eq_getElem hi] at h
    exact ⟨_, List.getElem_mem hi, h⟩
  · rintro ⟨b, hb, h⟩
    obtain ⟨i, hi, e⟩ := List.getElem_of_mem hb
    exact ⟨i, List.mem_range.mpr hi, by rw [List.getElem?_eq_getElem hi, e]; exact h⟩
def r_all (K : PySem.W.Frag) : List V → Hp → VK → Prop := fun xs H Q => ∃ (p : Addr) (bs : List Bool), xs = [.ref p] ∧ SqL K H p (bs.map V.bl) ∧ Q (.bl (bs.all id)) H
def r_any (K : PySem.W.Frag) : List V → Hp → VK → Prop := fun xs H Q => ∃ (p : Addr) (bs : List Bool), xs = [.ref p] ∧ SqL K H p (bs.map V.bl) ∧ Q (.bl (bs.any id)) H
theorem call_allA (hc : X.calm = true) : CallR X (.builtin "all") (r_all X.K) := by
  intro pins s σ H xs us Q I r h
  obtain ⟨p, bs, rfl, hq, q⟩ := h
  obtain ⟨u, rfl, ru⟩ := vals1 r
  cases ru
  obtain ⟨its, rv, pl, hz⟩ := I.list hq
  have ei := blVals rv
  subst ei
  refine wpAny_with_toks (n := 1) I.tk (call_all_walk (wpAny_pyIter_list pl.isList ?_))
  have ne : p ≠ s.heap.objs.size := Nat.ne_of_lt (by obtain ⟨o, e, _⟩ := pl.isList; exact Heap.lt_size e)
  refine ⟨_, _, _, _, _, _, fun i => (bs[i]?).getD false, rfl, Walks.list (show X.A.in1.handled = none from I.ok.hd hc) s.heap.objs.size p ne _, ⟨⟨_, Heap.get?_push_size _ rfl, rfl, rfl⟩, pl.isList.at fun o e => Heap.get?_push_of_some _ e⟩, ?_, fun h' tk hk ht => ?_⟩
  · intro i v s Q E hP hQ
    have hP : (bs.map Value.bool)[i]? = some v := by simpa using hP
    rw [List.getElem?_map] at hP
    obtain ⟨b, hb, rfl⟩ := Option.map_eq_some_iff.mp hP
    have hQ : Q ((bs[i]?).getD false) s := hQ
    rw [hb] at hQ
    exact wpAny_pure hQ
  · refine ⟨.bl (bs.all id), H, I.kept (fun b o e => hk b o ?_ (Heap.get?_push_of_some _ e)) ht, ?_, q⟩
    · intro z
      have : b = s.heap.objs.size := by simpa using z
      exact absurd (Heap.lt_size e) (by rw [this]; exact Nat.lt_irrefl _)
    · show Value.bool _ = Value.bool _
      rw [← range_all bs]
      congr 2
      simp
theorem call_anyA (hc : X.calm = true) : CallR X (.builtin "any") (r_any X.K) := by
  intro pins s σ H xs us Q I r h
  obtain ⟨p, bs, rfl, hq, q⟩ := h
  obtain ⟨u, rfl, ru⟩ := vals1 r
  cases ru
  obtain ⟨its, rv, pl, hz⟩ := I.list hq
  have ei := blVals rv
  subst ei
  refine wpAny_with_toks (n := 1) I.tk (call_any_walk (wpAny_pyIter_list pl.isList ?_))
  have ne : p ≠ s.heap.objs.size := Nat.ne_of_lt (by obtain ⟨o, e, _⟩ := pl.isList; exact Heap.lt_size e)
  refine ⟨_, _, _, _, _, _, fun i => (bs[i]?).getD false, rfl, Walks.list (show X.A.in1.handled = none from I.ok.hd hc) s.heap.objs.size p ne _, ⟨⟨_, Heap.get?_push_size _ rfl, rfl, rfl⟩, pl.isList.at fun o e => Heap.get?_push_of_some _ e⟩, ?_, fun h' tk hk ht => ?_⟩
  · intro i v s Q E hP hQ
    have hP : (bs.map Value.bool)[i]? = some v := by simpa using hP
    rw [List.getElem?_map] at hP
    obtain ⟨b, hb, rfl⟩ := Option.map_eq_some_iff.mp hP
    have hQ : Q ((bs[i]?).getD false) s := hQ
    rw [hb] at hQ
    exact wpAny_pure hQ
  · refine ⟨.bl (bs.any id), H, I.kept (fun b o e => hk b o ?_ (Heap.get?_push_of_some _ e)) ht, ?_, q⟩
    · intro z
      have : b = s.heap.objs.size := by simpa using z
      exact absurd (Heap.lt_size e) (by rw [this]; exact Nat.lt_irrefl _)
    · show Value.bool _ = Value.bool _
      rw [← range_any bs]
      congr 2
      simp

section
variable {K : PySem.W.Frag} {σ : St} {H : Hp} {Q : VK}
theorem v_all {p : Addr} {bs : List Bool} (h : SqL K H p (bs.map V.bl)) (q : Q (.bl (bs.all id)) H) : r_all K [.ref p] H Q := ⟨p, bs, rfl, h, q⟩
theorem v_any {p : Addr} {bs : List Bool} (h : SqL K H p (bs.map V.bl)) (q : Q (.bl (bs.any id)) H) : r_any K [.ref p] H Q := ⟨p, bs, rfl, h, q⟩
theorem str_comp {g : TG} {tt : TT} {te : TE} {σ' : St} {z : Str} (Pv : Nat → List V → Hp → Prop) (h0 : Pv 0 [] H) (hlen : ∀ i ys H, i ≤ z.cps.size → Pv i ys H → ys.length ≤ sizeLine)
    (hs : ∀ (i c : Nat) ys H, z.cps.toList[i]? = some c → Pv i ys H → g (.str ⟨#[c]⟩) σ' H fun σ2 H2 => tt σ2 H2 fun b H3 => if b = true then te σ2 H3 fun y H4 => Pv (i + 1) (ys ++ [y]) H4 else Pv (i + 1) ys H3)
    (hd : ∀ ys H, Pv z.cps.size ys H → ∀ p, H p = none → Q (.ref p) (upd H p (.lst ys))) :
    ∃ z', V.str z = .str z' ∧ CompW g tt te σ' Q (Itx z'.cps.size (signV z')) H := by
  refine ⟨z, rfl, fun i m ys H => m = z.cps.size - i ∧ i ≤ z.cps.size ∧ Pv i ys H, ⟨z.cps.size, by simp, Nat.zero_le _, h0⟩, ?_⟩
  rintro i m ys H ⟨rfl, hi, p⟩
  refine ⟨hlen i ys H hi p, ?_⟩
  by_cases hlt : i < z.cps.size
  · refine .inr ⟨hlt, Pv (i + 1), fun ys' H' p' => ⟨z.cps.size - (i + 1), by omega, rfl, hlt, p'⟩, fun x H' y => ?_⟩
    obtain ⟨rfl, c, ec, rfl⟩ := y
    exact hs i c ys _ ec p
  · have e : i = z.cps.size := by omega
    subst e
    exact .inl ⟨Nat.le_refl _, hd ys H p⟩
end
end
end L2

/-! xs[::-1], min and max of two, pop -/
namespace L2
open PySem PySem.Spec PyProof.Rows PySem.SeqAt

theorem range_rev (n : Nat) : ((List.range n).map fun (k : Nat) => ((n : Int) - 1 + -1 * (k : Int)).toNat) = (List.range n).reverse := by
  apply List.ext_getElem
  · simp
  · intro i h1 h2
    simp only [List.getElem_map, List.getElem_range, List.getElem_reverse, List.length_range]
    simp only [List.length_map, List.length_range] at h1
    omega
theorem pick_range {α : Type} (xs : List α) : (List.range xs.length).filterMap (xs[·]?) = xs := by
  induction xs with
  | nil => rfl
  | cons x xs ih =>
    rw [List.length_cons, List.range_succ_eq_map, List.filterMap_cons, List.filterMap_map]
    show x :: _ = _
    congr 1
theorem slicePick_rev (items : List Value) : slicePick items.toArray none none (some (-1)) = items.reverse.toArray := by
  unfold slicePick sliceBounds sliceRange
  simp only [Option.getD_some, List.size_toArray]
  have h : ¬ ((-1 : Int) > 0) := by decide
  simp only [if_neg h]
  have ec : (if (items.length : Int) - 1 > -1 then ((items.length : Int) - 1 - -1 - -1 - 1) / (- -1) else 0).toNat = items.length := by
    by_cases h0 : (items.length : Int) - 1 > -1
    · rw [if_pos h0]
      have : (- -1 : Int) = 1 := by decide
      rw [this, Int.ediv_one]; omega
    · rw [if_neg h0]; omega
  rw [ec, range_rev, List.filterMap_reverse]
  congr 2
  have : (fun (x : Nat) => (items.toArray)[x]?) = fun (x : Nat) => items[x]? := by funext x; simp
  rw [this, pick_range]
section
variable {X : Cx}
def tRev3 (K : PySem.W.Frag) (te : TE) : TE := fun σ H Q => te σ H fun x H1 => ∃ a xs, x = .ref a ∧ SqL K H1 a xs ∧ ∀ p, H1 p = none → Q (.ref p) (upd H1 p (.lst xs.reverse))
theorem pe_rev3 {e k : Expr} {te : TE} {p2 pos : Pos} (he : PE X e te) (hk : PE X k (tUn (rU fun i => .int (-i)) (tC (.int 1)))) : PE X (.Subscript e (.Slice none none (some k) p2) pos) (tRev3 X.K te) := by
  intro pins s σ H Q I h
  refine Subscript_ (thn (he pins s σ H _ I h) fun v s1 ⟨x, H1, I1, r1, q1⟩ => ?_)
  obtain ⟨a, xs, rfl, hx, q⟩ := q1
  refine wpAny_Slice ?_
  rw [evalPart_none]
  refine wpAny_pure (wpAny_pure ?_)
  rw [evalPart_some]
  refine thn (hk pins s1 σ H1 (fun y H2 => y = .int (-1) ∧ H2 = H1) I1 ⟨1, rfl, rfl, rfl⟩) fun vk s2 ⟨y, H2, I2, r2, ey, eH⟩ => ?_
  subst ey
  subst eH
  obtain ⟨tk, rfl⟩ := r2
  have I4 : Inv X pins σ H2 { s2 with heap := s2.heap.push { cls := .type "slice", data := .fields #[.none, .none, .int (-1) tk] } } := I2.kept (t' := s2.toks) fun b ob q => Heap.get?_push_of_some _ q
  cases r1
  obtain ⟨its, r, ht, hz⟩ := I4.list hx
  have hlen := r.length
  refine tail_any (ops := [.ref a, .ref s2.heap.objs.size]) ht.isList.typeIs slot_list_getitem.lookup ?_ (by with_unfolding_all rfl)
  refine wpAny_getItem_list_slice ht.isList (Heap.IsSliceOf.new ..) .none .none (.int (-1) tk) (by simp) ?_ (by rw [List.size_toArray] <;> omega)
  rw [slicePick_rev]
  refine ⟨.ref _, _, I4.laid (t' := s2.toks) (o := .lst xs.reverse) (fun b ob q => Heap.get?_push_of_some _ q) (Nat.le_refl _) ?_, rfl, q _ (I4.hok.fresh (Nat.le_refl _))⟩
  exact ⟨by rw [List.length_reverse]; exact hz, _, 0, Vals.reverse r, Heap.get?_push_size _ rfl⟩
def r_min (_ : PySem.W.Frag) : List V → Hp → VK → Prop := fun xs H Q => ∃ i j, xs = [.int i, .int j] ∧ Q (.int (if j < i then j else i)) H
def r_max (_ : PySem.W.Frag) : List V → Hp → VK → Prop := fun xs H Q => ∃ i j, xs = [.int i, .int j] ∧ Q (.int (if j > i then j else i)) H
theorem call_minA (hc : X.calm = true) : CallR X (.builtin "min") (r_min X.K) := call_min2 hc
theorem call_maxA (hc : X.calm = true) : CallR X (.builtin "max") (r_max X.K) := call_max2 hc
end
section
variable {σ : St} {H : Hp} {Q : VK} {K : PySem.W.Frag}
theorem st_rev3 {te : TE} (h : te σ H fun x H1 => ∃ a xs, x = .ref a ∧ SqL K H1 a xs ∧ ∀ p, H1 p = none → Q (.ref p) (upd H1 p (.lst xs.reverse))) : tRev3 K te σ H Q := h
theorem st_bm0 {T : String} {r : V → List V → Hp → VK → Prop} {to : TE} (h : to σ H fun x H1 => tyV K T x H1 ∧ r x [] H1 Q) : tBM0 K T r to σ H Q := h
theorem v_pop {p : Addr} {xs : List V} {y : V} (h1 : H p = some (.lst (xs ++ [y]))) (h : Q y (upd H p (.lst xs))) : rPop (.ref p) [] H Q :=
  ⟨p, xs ++ [y], y, rfl, rfl, h1, by simp, by rw [List.dropLast_concat]; exact h⟩
theorem v_min {i j : Int} (h : Q (.int (if j < i then j else i)) H) : r_min K [.int i, .int j] H Q := ⟨i, j, rfl, h⟩
theorem v_max {i j : Int} (h : Q (.int (if j > i then j else i)) H) : r_max K [.int i, .int j] H Q := ⟨i, j, rfl, h⟩
end

/-! ### t[lo:hi], the whole; () + t -/
section
variable {prog : Program} {w : World} {A : Around} {E : Value → Shared → Prop} {s : Shared}
theorem getItem_tuple_whole {t sl : Addr} {items : Array Value} {vl vu : Value} {lo hi : Option Int} {Q : Value → Shared → Prop} (ht : IsTup s.heap t items) (hs : s.heap.IsSliceOf sl vl vu .none) (pl : IsPart vl lo) (pu : IsPart vu hi)
    (hw : HT.sIx items.size 0 lo = 0 ∧ HT.sIx items.size items.size hi = items.size) (h : Q (.ref t) s) : wpAny (model prog w) A (getItem (.ref t) (.ref sl)) Q E s := by
  obtain ⟨os, hos, hcs, hds⟩ := id hs
  have hTs : s.TypeIs (.ref sl) "slice" := ⟨os, hos, hcs⟩
  unfold getItem
  try with_reducible refine wpAny_holding ?_
  first | refine wpAny_bind (wpAny_pure ?_) | skip
  refine wpAny_bind (wpAny_sequenceKey ht.typeIs (by decide) ?_)
  refine wpAny_bind (wpAny_callSpecial?_slot (name := Str.ofString "__getitem__") ht.typeIs PyProof.Rows.slot_tuple_getitem
    (wpAny_call_entry PyProof.Rows.slot_tuple_getitem ht.typeIs entry_tuple_getitem ?_ (args_tuple_getitem _ _)))
  show wpAny _ _ (Builtin.Tuple.tupleItemsOf (.ref t) >>= _) _ _ s
  refine wpAny_bind (tupleItemsOf_ ht ?_)
  refine wpAny_bind (wpAny_typeOf hTs ?_)
  rw [if_pos (by decide)]
  refine wpAny_bind (HT.sliceApplied_gen hs pl pu ?_)
  have hyes : ((((HT.sIx items.size 0 lo : Nat) : Int) == 0 && (1 : Int) == 1 && (HT.sIx items.size items.size hi - HT.sIx items.size 0 lo) == items.size) = true) := by
    rw [hw.1, hw.2]; simp
  show wpAny _ _ (if (((HT.sIx items.size 0 lo : Nat) : Int) == 0 && (1 : Int) == 1 && (HT.sIx items.size items.size hi - HT.sIx items.size 0 lo) == items.size) = true then _ else _) _ _ s
  rw [if_pos hyes]
  refine wpAny_bind (m := Builtin.Tuple.tupleIsExact (.ref t)) ?_
  unfold Builtin.Tuple.tupleIsExact
  refine wpAny_bind (wpAny_typeOf ht.typeIs (wpAny_pure ?_))
  rw [if_pos (by decide)]
  first
    | exact wpAny_bind (wpAny_rule (wpAny_bind (wpAny_pure ⟨_, rfl, wpAny_pure h⟩)))
    | exact wpAny_bind (wpAny_rule (wpAny_pure ⟨_, rfl, wpAny_pure h⟩))
    | exact wpAny_bind (wpAny_rule (wpAny_pure (wpAny_pure ⟨_, rfl, wpAny_pure h⟩)))
end
section
variable {X : Cx}
def rSlW (K : PySem.W.Frag) : V → Option Int → Option Int → Hp → VK → Prop := fun x lo hi H Q => ∃ a xs, x = .ref a ∧ SqT K H a xs ∧ (HT.sIx xs.length 0 lo = 0 ∧ HT.sIx xs.length xs.length hi = xs.length) ∧ Q (.ref a) H
theorem sl_tupW : SlR X (rSlW X.K) := by
  intro pins s σ H x v vl vu lo hi sl Q I rx hs pl pu h
  obtain ⟨a, xs, rfl, hx, hw, q⟩ := h
  cases rx
  obtain ⟨its, r, ht, hz⟩ := I.tuple hx
  have hlen : its.toArray.size = xs.length := by rw [List.size_toArray]; exact r.length.symm
  refine ⟨"tuple", _, PyProof.Rows.slot_tuple_getitem.lookup, ht.typeIs, ?_⟩
  exact getItem_tuple_whole ht hs pl pu (by rw [hlen]; exact hw) ⟨.ref a, H, I, rfl, q⟩
def rSlB (K : PySem.W.Frag) : V → Option Int → Option Int → Hp → VK → Prop := fun x lo hi H Q => rSlA K x lo hi H Q ∨ rSlW K x lo hi H Q
theorem sl_anyB : SlR X (rSlB X.K) := sl_any.or sl_tupW
/-- () + u -/
def rCat0 (K : PySem.W.Frag) : R2 := fun x y H Q => ∃ a b ys, x = .ref a ∧ y = .ref b ∧ SqT K H a [] ∧ SqT K H b ys ∧ Q (.ref b) H
theorem op_cat0 : OpR X (binaryOp .Add) (rCat0 X.K) := by
  intro pins s σ H x y v u Q I rx ry h
  obtain ⟨a, b, ys, rfl, rfl, ha, hb, q⟩ := h
  cases rx
  cases ry
  obtain ⟨its, r1, p1, _⟩ := I.tuple ha
  obtain ⟨its2, r2, p2, _⟩ := I.tuple hb
  cases r1
  obtain ⟨⟨cls, dd, data, sl⟩, ho, hc, n, hd⟩ := id p1
  obtain ⟨⟨cls2, dd2, data2, sl2⟩, ho2, hc2, n2, hd2⟩ := id p2
  simp only at hc hd hc2 hd2
  subst hc hd hc2 hd2
  exact concat_meets ⟨_, ho, rfl⟩ ⟨_, ho2, rfl⟩ noFill_tuple_add seq_tuple_add PySem.F.slot_tuple_add PySem.F.entry_tuple_add (PySem.F.args_tuple_add_2 _ _)
      (tuple_addW0 a b _ its2.toArray n n2 dd dd2 sl sl2 (by simp)) ⟨ho, ho2, ⟨.ref b, H, I, rfl, q⟩⟩
def rAddB (K : PySem.W.Frag) : R2 := fun x y H Q => rAddA K x y H Q ∨ rCat0 K x y H Q
theorem op_addB : OpR X (binaryOp .Add) (rAddB X.K) := op_addA.or op_cat0
end
section
variable {H : Hp} {Q : VK} {K : PySem.W.Frag}
/-- t + u, whatever they are -/
theorem v_catT {a b : Addr} {xs ys : List V} (h1 : SqT K H a xs) (h2 : SqT K H b ys) (hz : xs.length + ys.length ≤ sizeLine) (h : ∀ p H', Same H H' → SqT K H' p (xs ++ ys) → Q (.ref p) H') : rAddB K (.ref a) (.ref b) H Q := by
  by_cases hx : xs = []
  · subst hx
    exact .inr ⟨a, b, ys, rfl, rfl, h1, h2, h b H (fun _ _ e => e) h2⟩
  · refine .inl (.inr (.inr (.inr ⟨a, b, xs, ys, rfl, rfl, h1, h2, hx, hz, fun hy => ?_, fun hy p hp => h p _ (Same.new hp _) (SqT.of upd_same)⟩)))
    subst hy
    exact h a H (fun _ _ e => e) (by rw [List.append_nil]; exact h1)
/-- t[lo:hi], whatever it is -/
theorem v_slT {a : Addr} {xs : List V} {lo hi : Option Int} (h1 : SqT K H a xs) (h : ∀ p H', Same H H' → SqT K H' p (cutV xs lo hi) → Q (.ref p) H') : rSlB K (.ref a) lo hi H Q := by
  by_cases hw : HT.sIx xs.length 0 lo = 0 ∧ HT.sIx xs.length xs.length hi = xs.length
  · refine .inr ⟨a, xs, rfl, h1, hw, h a H (fun _ _ e => e) ?_⟩
    unfold cutV
    rw [hw.1, hw.2, List.drop_zero, Nat.sub_zero, List.take_length]; exact h1
  · exact .inl (.inr (.inl ⟨a, xs, rfl, h1, hw, fun p hp => h p _ (Same.new hp _) (SqT.of upd_same)⟩))
theorem v_shr {i j : Int} (c : 0 ≤ j) (h : Q (.int (i / 2 ^ j.toNat)) H) : rI (fun _ j => 0 ≤ j) (fun i j => .int (i / 2 ^ j.toNat)) (.int i) (.int j) H Q := ⟨i, j, rfl, rfl, c, h⟩
theorem v_shl {i j : Int} (c : CPow i j) (h : Q (.int (i * 2 ^ j.toNat)) H) : rI CPow (fun i j => .int (i * 2 ^ j.toNat)) (.int i) (.int j) H Q := ⟨i, j, rfl, rfl, c, h⟩
end

/-! ### range(n - 1, -1, -1) -/
def iRng3 (ta : TA) : TI := fun σ H R => ta σ H fun vs H1 => ∃ n : Nat, vs = [.int ((n : Int) - 1), .int (-1), .int (-1)] ∧ (n : Int) < 2 ^ 62 ∧ R (Itv n) H1
theorem size_down (n : Nat) : Builtin.Range.rangeSize ((n : Int) - 1) (-1) (-1) = n := by
  unfold Builtin.Range.rangeSize
  rw [if_neg (by decide)]
  have e : (- (-1) : Int) = 1 := by decide
  rw [e, Int.ediv_one]
  split <;> omega
theorem pi_range3 {X : Cx} {tg : Expr} {a b c : Expr} {ta : TA} {p pos : Pos} (hg : Gl X "range") (hm : X.mg "range" = none) (ha : PA X [a, b, c] ta)
    (hs : starEach [a, b, c] X.env = (false, eval a X.env) :: starEach [b, c] X.env := by rfl) (hs2 : starEach [b, c] X.env = [(false, eval b X.env), (false, eval c X.env)] := by rfl) :
    PI X tg (.Call (.Name "range" p) [a, b, c] [] pos) (iRng3 ta) := by
  intro pins s σ H R I h
  refine Call_ (ld_blt I hg hm boot_range (PyProof.Rows.callWith_type1 (thn (ha pos pins s σ H _ I h) fun us s1 ⟨vs, H1, I1, r1, q1⟩ => ?_) hs (by rw [hs2]; rfl)))
  obtain ⟨n, e, q1, q⟩ := q1
  subst e
  cases r1 with
  | cons r rr =>
    cases rr with
    | cons r' rr =>
      cases rr with
      | cons r'' rr =>
        cases rr
        obtain ⟨t, rfl⟩ := r
        obtain ⟨t', rfl⟩ := r'
        obtain ⟨t'', rfl⟩ := r''
        refine call_range_3 (by decide) ?_ (Or.inl (PyProof.noPylong_small (by decide)))
        have I2 : Inv X pins σ H1 { s1 with heap := s1.heap.push { cls := .type "range", data := .fields #[.int ((n : Int) - 1) t, .int (-1) t', .int (-1) t''] }, toks := s1.toks } := I1.kept (t' := s1.toks) fun b o e => Heap.get?_push_of_some _ e
        refine wpAny_pyIter_range (IsRange.new ..) ?_ ?_
        · unfold Builtin.Range.small
          rw [size_down]
          simp only [Builtin.Range.rangeFitsLong, Bool.and_eq_true, Bool.or_eq_true, decide_eq_true_eq, beq_iff_eq, show ¬ ((-1 : Int) > 0) by decide, if_false]
          omega
        refine ⟨_, [_], _, _, H1, rfl, I2.kept (t' := s1.toks) fun b o e => Heap.get?_push_of_some _ e, turn_rev _ n, ?_, fun b hb => ?_, q⟩
        · have e1 : (n : Int) - 1 + ((0 : Nat) : Int) * (-1) = (n : Int) - 1 := by simp
          have e2 : (n : Int) - ((0 : Nat) : Int) = n := by simp
          rw [e1, e2]
          have := Heap.get?_push_size (s1.heap.push { cls := .type "range", data := .fields #[.int ((n : Int) - 1) t, .int (-1) t', .int (-1) t''] }) (o := { cls := .type "range_iterator", data := .fields #[rawInt ((n : Int) - 1), rawInt (Builtin.Range.rangeSize ((n : Int) - 1) (-1) (-1)), rawInt (-1)] }) rfl
          rw [size_down] at this ⊢
          exact this
        · have e : b = (s1.heap.push { cls := .type "range", data := .fields #[.int ((n : Int) - 1) t, .int (-1) t', .int (-1) t''] }).objs.size := by simpa using hb
          subst e
          exact I2.fpOk (Nat.le_refl _) (I2.hok.fresh (Nat.le_refl _))
section
variable {σ : St} {H : Hp}
theorem st_rng3 {ta : TA} {R : It → Hp → Prop} (h : ta σ H fun vs H1 => ∃ n : Nat, vs = [.int ((n : Int) - 1), .int (-1), .int (-1)] ∧ (n : Int) < 2 ^ 62 ∧ R (Itv n) H1) : iRng3 ta σ H R := h
end

/-! ### enumerate(t), t a tuple -/
section
variable {prog : Program} {w : World} {A : Around} {E : Value → Shared → Prop} {s : Shared}
theorem nextOf_tuple_item {it l : Addr} {i : Nat} {items} {x : Value} {Q : Value → Shared → Prop} (hit : s.heap.IsTupleIter it l i) (hl : s.heap.IsTuple l items) (hx : items[i]? = some x)
    (hQ : ∀ h', h'.IsTupleIter it l (i + 1) → Heap.SameBut it s.heap h' → Q x { s with heap := h' }) :
    wpAny (model prog w) A (Builtin.SmallTypes.nextOf (.ref it)) Q E s := by
  obtain ⟨o, ho, hc, hd⟩ := id hit
  obtain ⟨ol, hol, _, nl, hdl⟩ := hl
  unfold Builtin.SmallTypes.nextOf
  refine wpAny_bind (wpAny_callSpecial?_slot (name := Str.ofString "__next__") hit.typeIs F.slot_tuple_iterator_next
    (wpAny_call_entry F.slot_tuple_iterator_next hit.typeIs F.entry_tuple_iterator_next ?_ (F.args_tuple_iterator_next_1 _)))
  show wpAny _ _ (field (.ref it) 0 >>= _) _ _ s
  refine wpAny_bind (wpAny_field ho hd (x := .ref l) rfl ?_)
  show wpAny _ _ (if (Value.ref l == Value.none) = true then _ else _) _ _ s
  rw [if_neg (show ¬ ((Value.ref l == Value.none) = true) from Bool.false_ne_true)]
  show wpAny _ _ (field (.ref it) 1 >>= _) _ _ s
  refine wpAny_bind (wpAny_field ho hd (x := .int i 0) rfl ?_)
  show wpAny _ _ (seqItems? (.ref l) >>= _) _ _ s
  refine wpAny_bind (wpAny_seqItems hol hdl ?_)
  simp only [Int.toNat_natCast, hx]
  refine wpAny_bind (wpAny_setField ho hd (by simp) (wpAny_pure ⟨x, rfl, wpAny_pure (hQ _ ?_ (Heap.SameBut.update ..))⟩))
  exact ⟨_, Heap.get?_update_self _ ho (Obj.isFreed_of_fields (Obj.data_mapFields hd _)), (Obj.cls_mapFields ..).trans hc, by
    rw [Obj.data_mapFields hd]; simp [rawInt]⟩
theorem nextOf_tuple_end {it l : Addr} {i : Nat} {items} {Q : Value → Shared → Prop} (hh : A.handled = none) (hit : s.heap.IsTupleIter it l i) (hl : s.heap.IsTuple l items) (hx : items[i]? = none)
    (hE : ∀ h' e, Heap.ExtBut it s.heap h' → (∃ o, h'.get? e = some o ∧ o.cls = .type "StopIteration") → E (.ref e) { s with heap := h' }) :
    wpAny (model prog w) A (Builtin.SmallTypes.nextOf (.ref it)) Q E s := by
  obtain ⟨o, ho, hc, hd⟩ := id hit
  obtain ⟨ol, hol, _, nl, hdl⟩ := hl
  unfold Builtin.SmallTypes.nextOf
  refine wpAny_bind (wpAny_callSpecial?_slot (name := Str.ofString "__next__") hit.typeIs F.slot_tuple_iterator_next
    (wpAny_call_entry F.slot_tuple_iterator_next hit.typeIs F.entry_tuple_iterator_next ?_ (F.args_tuple_iterator_next_1 _)))
  show wpAny _ _ (field (.ref it) 0 >>= _) _ _ s
  refine wpAny_bind (wpAny_field ho hd (x := .ref l) rfl ?_)
  show wpAny _ _ (if (Value.ref l == Value.none) = true then _ else _) _ _ s
  rw [if_neg (show ¬ ((Value.ref l == Value.none) = true) from Bool.false_ne_true)]
  show wpAny _ _ (field (.ref it) 1 >>= _) _ _ s
  refine wpAny_bind (wpAny_field ho hd (x := .int i 0) rfl ?_)
  show wpAny _ _ (seqItems? (.ref l) >>= _) _ _ s
  refine wpAny_bind (wpAny_seqItems hol hdl ?_)
  simp only [Int.toNat_natCast, hx]
  refine wpAny_bind (wpAny_rule (wpAny_bind (wpAny_setField ho hd (by simp) ?_)))
  show wpAny _ _ (newExc (.type "StopIteration") [] >>= _) _ _ _
  refine wpAny_bind ?_
  simp only [newExc, newTuple]
  refine wpAny_bind (wpAny_newObj_type ?_ (by size_fits))
  refine wpAny_bind (m := firstArgMember _ _) (wpAny_of_eq (a := Value.none) (by first | rfl | (simp only [firstArgMember]; rfl)) ?_)
  refine wpAny_newObj_type ?_ (by size_fits)
  simp only [raiseNew]
  refine wpAny_bind (wpAny_handled ?_)
  first | rw [show A.in1.handled = none from hh] | rw [hh]
  refine wpAny_bind (wpAny_pure (wpAny_throw ?_))
  exact hE _ _ (((Heap.SameBut.update ..).extBut.push _).push _) ⟨_, Heap.get?_push_size _ rfl, rfl⟩
end
theorem draws_tuple {prog : Program} {w : World} {A : Around} (hh : A.handled = none) (it l : Addr) (hne : l ≠ it) (items : Array Value) :
    Draws prog w A it [it, l] items.size (fun i v => items[i]? = some v) (fun i h => h.IsTupleIter it l i ∧ h.IsTuple l items) where
  live := fun _ _ st => let ⟨o, ho, _⟩ := st.1; ⟨o, ho⟩
  frame := fun _ _ _ st hk => ⟨st.1.at fun o e => hk it (by simp) o e, st.2.at fun o e => hk l (by simp) o e⟩
  item := fun i s Q E hi st hQ => by
    refine nextOf_tuple_item st.1 st.2 (x := items[i]) (by simp [hi]) fun h' hit' hs' => ?_
    exact hQ _ h' s.toks (by simp [hi]) ⟨hit', st.2.extBut hs'.extBut hne⟩ hs'
  done := fun s Q E st hE => nextOf_tuple_end hh st.1 st.2 (by simp) hE
set_option maxHeartbeats 1000000 in
theorem meets_enumerate_newT (l : Addr) (items : Array Value) (n : Nat) (dct : Option Addr) (sl : Array (Option Value)) :
    Meets (Builtin.«enumerate.__new__» ⟨[.type "enumerate", .ref l], []⟩) (fun _ R s => s.heap.get? l = some { cls := .type "tuple", dict := dct, data := .seq items n, slots := sl } ∧
      R (.ok (.ret (.ref (s.heap.push { cls := .type "tuple_iterator", data := .fields #[.ref l, .int 0 0] }).objs.size)))
        { s with heap := (s.heap.push { cls := .type "tuple_iterator", data := .fields #[.ref l, .int 0 0] }).push { cls := .type "enumerate", data := .fields #[.none, .bool false, .ref s.heap.objs.size, rawInt 0, .none, .none] } }) :=
  .of_wp fun prog w A R s h => by
    obtain ⟨hp, g, d, tk, os⟩ := s; obtain ⟨hl, h⟩ := h
    have hsub := sub_enumerate
    have hL : Heap.IsTuple (Shared.heap ⟨hp, g, d, tk, os⟩) l items := ⟨_, hl, rfl, n, rfl⟩
    wp_walk using AutoSeq1.wpAny_loadPart' hl
    refine wpAny_stack_any fun st => wpAny_pure ?_
    split
    · rename_i c _ _ _ _ _
      cases (c == Value.type "enumerate")
      · wp_walk using AutoSeq1.wpAny_loadPart' hl, wpAny_pyIter_tuple hL
        exact ⟨_, rfl, h⟩
      · wp_walk using AutoSeq1.wpAny_loadPart' hl, wpAny_pyIter_tuple hL
        exact ⟨_, rfl, h⟩
    · wp_walk using AutoSeq1.wpAny_loadPart' hl, wpAny_pyIter_tuple hL
      exact ⟨_, rfl, h⟩
theorem call_enumerate_tuple {prog : Program} {w : World} {A : Around} {E : Value → Shared → Prop} {s : Shared} {l : Addr} {items : Array Value} {Q : Value → Shared → Prop} (hL : s.heap.IsTuple l items)
    (h : ∀ h', IsEnum h' (s.heap.objs.size + 1) s.heap.objs.size 0 .none → h'.IsTupleIter s.heap.objs.size l 0 → h'.objs.size = s.heap.objs.size + 2 →
      (∀ b o, s.heap.get? b = some o → h'.get? b = some o) → Q (.ref (s.heap.objs.size + 1)) { s with heap := h' }) :
    wpAny (model prog w) A (call (.type "enumerate") [.ref l]) Q E s := by
  obtain ⟨⟨c, dct, dt, sl⟩, hl, hc, n, hd⟩ := hL
  replace hc : c = .type "tuple" := hc
  replace hd : dt = .seq items n := hd
  subst hc hd
  refine callType_new F.called_enumerate (by decide) (F.typeCall_enumerate_1 _) (F.newCall_enumerate_1 _) (fun obj => F.args_object_init_2 obj _) F.entry_enumerate_new
    (meets_enumerate_newT l items n dct sl) ⟨hl, ?_⟩
  have hz : (s.heap.push { cls := .type "tuple_iterator", data := .fields #[.ref l, .int 0 0] }).objs.size = s.heap.objs.size + 1 := Heap.size_push ..
  show _ ∧ _
  rw [hz]
  have he : IsEnum ((s.heap.push { cls := .type "tuple_iterator", data := .fields #[.ref l, .int 0 0] }).push
      { cls := .type "enumerate", data := .fields #[.none, .bool false, .ref s.heap.objs.size, rawInt 0, .none, .none] }) (s.heap.objs.size + 1) s.heap.objs.size 0 .none := by
    have := Heap.get?_push_size (s.heap.push { cls := .type "tuple_iterator", data := .fields #[.ref l, .int 0 0] })
      (o := { cls := .type "enumerate", data := .fields #[.none, .bool false, .ref s.heap.objs.size, rawInt 0, .none, .none] }) rfl
    rw [hz] at this; exact this
  refine ⟨⟨_, he, rfl⟩, h _ he ⟨_, Heap.get?_push_of_some _ (Heap.get?_push_size _ rfl), rfl, rfl⟩ (by rw [Heap.size_push, hz]) fun b o y => Heap.get?_push_of_some _ (Heap.get?_push_of_some _ y)⟩
/-- the items of the tuple at a, each with its number, in a new tuple -/
def Ite (K : PySem.W.Frag) (a : Addr) : It := ⟨fun i H => ∃ xs x, SqT K H a xs ∧ xs[i]? = some x, fun i H x H' => ∃ p y, x = .ref p ∧ H p = none ∧ (∀ xs, SqT K H a xs → xs[i]? = some y) ∧ H' = upd H p (.tup [.int i, y]), fun i H => ∃ xs, SqT K H a xs ∧ xs.length ≤ i⟩
theorem turn_enumT {P : Program} {w : World} {K : PySem.W.Frag} {elts : List Expr} {k : Nat} {pos : Pos} (a e it : Addr) (hei : e ≠ it) :
    Turn P w K (.Tuple elts k pos) (Ite K a) [e, it] e (fun i h => (∃ old, IsEnum h e it i old) ∧ h.IsTupleIter it a i) where
  mem := by simp
  obj := by
    rintro i h ⟨⟨old, e1⟩, o2, e2, _, d2⟩ b hb
    have hb : b = e ∨ b = it := by simpa using hb
    rcases hb with rfl | rfl
    · exact ⟨_, e1, fun v z => by cases (show Data.fields _ = Data.cell v from z)⟩
    · exact ⟨_, e2, fun v z => by rw [d2] at z; cases z⟩
  keep := fun i h h' st kk => ⟨let ⟨old, e1⟩ := st.1; ⟨old, kk e (by simp) _ e1⟩, st.2.at fun o q => kk it (by simp) o q⟩
  item := by
    intro X hP hw hK hc i pins s σ H E I hf st hg
    subst hP hw hK
    obtain ⟨xs, x, hq, hx⟩ := hg
    obtain ⟨its, rv, p, hz⟩ := I.tuple hq
    obtain ⟨u, hu, ru⟩ := rv.get hx
    have hil : i < its.toArray.size := by rw [List.size_toArray]; exact (List.getElem?_eq_some_iff.mp hu).1
    have pT : s.heap.IsTuple a its.toArray := p
    have nea : a ≠ it := fun z => by
      obtain ⟨o1, h1, c1, _⟩ := pT
      obtain ⟨o2, h2, c2, _⟩ := st.2
      rw [z, h2] at h1
      cases h1
      rw [c1] at c2
      exact absurd c2 (by decide)
    have nee : e ≠ a := fun z => by
      obtain ⟨o1, h1, c1, _⟩ := pT
      obtain ⟨old, h2⟩ := st.1
      rw [← z] at h1
      have h2 : s.heap.get? e = some _ := h2
      rw [h2] at h1
      cases h1
      exact absurd c1 (show ¬ (Value.type "enumerate" = Value.type "tuple") by decide)
    have W := WalksT.enumerateD (prog := X.prog) (w := X.w) (A := X.A) (draws_tuple (A := X.A.in1) (show X.A.in1.handled = none from I.ok.hd hc) it a nea its.toArray) e hei (by simp [hei, nee]) (by simp)
    refine wpAny_with_toks (n := 1) I.tk (W.item i s _ _ hil ⟨st.1, st.2, pT⟩ fun T vs h' tk hv hT htup hmid kk ht => ?_)
    have ht : 0 < tk := ht
    obtain ⟨tk1, y, hy, rfl⟩ := hv
    have hy : its[i]? = some y := by simpa using hy
    rw [hu] at hy
    injection hy with hy
    subst hy
    have hap := W.apart i T h' hmid
    refine ⟨_, rfl, W.go elts k pos i T { s with heap := h', toks := tk } _ _ hmid fun h2 st2 k2 => ?_⟩
    have htup2 : IsTup h2 T [Value.int i tk1, u].toArray := by
      obtain ⟨o, e, c⟩ := htup
      exact ⟨o, k2 T o hap e, by simpa using c⟩
    have I1 : Inv X pins σ (upd H T (.tup [.int i, x])) { s with heap := h2, toks := tk } := I.turnLaid (ch := [e, it]) (fun b hb => hf b hb) (fun b u hb e => k2 b u hb (kk b u hb e)) hT ⟨by rw [sizeLine_eq]; simp, [Value.int i tk1, u], .cons ⟨tk1, rfl⟩ (.cons ru .nil), htup2⟩ ht
    refine ⟨.ref T, _, I1, rfl, ⟨T, x, rfl, I.hok.fresh hT, fun ys hy => by rw [I.tuple_inj hy hq]; exact hx, rfl⟩, ⟨st2.1, st2.2.1⟩, fun b hb => ?_⟩
    have hb2 : ∃ o, s.heap.get? b = some o := by
      have hb : b = e ∨ b = it := by simpa using hb
      rcases hb with rfl | rfl
      · obtain ⟨old, e1⟩ := st.1; exact ⟨_, e1⟩
      · obtain ⟨o, e1, _⟩ := st.2; exact ⟨_, e1⟩
    obtain ⟨o, e⟩ := hb2
    rw [upd_ne (Nat.ne_of_lt (Nat.lt_of_lt_of_le (Heap.lt_size e) hT))]
    exact (hf b hb).1
  done := by
    intro X hP hw hK hc i pins s σ H E I hf st hg
    subst hP hw hK
    obtain ⟨xs, hq, hx⟩ := hg
    obtain ⟨its, rv, p, hz⟩ := I.tuple hq
    have pT : s.heap.IsTuple a its.toArray := p
    have hno : its.toArray[i]? = none := by
      have := rv.length
      simp; omega
    obtain ⟨old, he⟩ := st.1
    have D : Draws X.prog X.w X.A.in1 it [it, a] 0 (fun _ _ => True) (fun _ h => h.IsTupleIter it a i ∧ h.IsTuple a its.toArray) :=
      { live := fun _ _ st => let ⟨o, ho, _⟩ := st.1; ⟨o, ho⟩
        frame := fun _ _ _ st hk => ⟨st.1.at fun o e => hk it (by simp) o e, st.2.at fun o e => hk a (by simp) o e⟩
        item := fun j s Q E hj => absurd hj (Nat.not_lt_zero _)
        done := fun s Q E st hE => nextOf_tuple_end (show X.A.in1.handled = none from I.ok.hd hc) st.1 st.2 hno hE }
    exact wpAny_pyNext_enum_endD D he ⟨st.2, pT⟩ fun h' hx => ⟨rfl, I.turnedL (ch := [e, it]) (t' := s.toks) (fun b hb => hf b hb) (fun b o hb y => hx b o (fun z => hb (by simp [z])) y) I.tk⟩
  self := fun A i s Q E st h => let ⟨old, e1⟩ := st.1; wpAny_pyIter_enum e1 h
def iEnumT (K : PySem.W.Frag) (ta : TA) : TI := fun σ H R => ta σ H fun vs H1 => ∃ a xs, vs = [.ref a] ∧ SqT K H1 a xs ∧ R (Ite K a) H1
theorem pi_enumT {X : Cx} {elts : List Expr} {k : Nat} {tpos p pos : Pos} {l : Expr} {ta : TA} (hg : Gl X "enumerate") (hm : X.mg "enumerate" = none) (ha : PA X [l] ta) (hs : starEach [l] X.env = [(false, eval l X.env)] := by rfl) :
    PI X (.Tuple elts k tpos) (.Call (.Name "enumerate" p) [l] [] pos) (iEnumT X.K ta) := by
  intro pins s σ H R I h
  refine Call_ (ld_blt I hg hm boot_enumerate (PyProof.Rows.callWith_type1 (thn (ha pos pins s σ H _ I h) fun us s1 ⟨vs, H1, I1, r1, q1⟩ => ?_) hs rfl))
  obtain ⟨a, xs, e, hq, q⟩ := q1
  subst e
  obtain ⟨v, rfl, rv⟩ := vals1 r1
  cases rv
  obtain ⟨its, rv, pT, hz⟩ := I1.tuple hq
  refine call_enumerate_tuple (show s1.heap.IsTuple a its.toArray from pT) fun h' he hit hz hk => ?_
  have I2 : Inv X pins σ H1 { s1 with heap := h' } := I1.kept (t' := s1.toks) hk
  refine wpAny_pyIter_enum he ?_
  have ne : s1.heap.objs.size + 1 ≠ s1.heap.objs.size := by omega
  refine ⟨s1.heap.objs.size + 1, _, _, _, H1, rfl, I2, turn_enumT a (s1.heap.objs.size + 1) s1.heap.objs.size ne, ⟨⟨_, he⟩, hit⟩, fun b hb => ?_, q⟩
  have hb : b = s1.heap.objs.size + 1 ∨ b = s1.heap.objs.size := by simpa using hb
  rcases hb with rfl | rfl
  · exact I1.fpOk (Nat.le_succ _) (I1.hok.fresh (Nat.le_succ _))
  · exact I1.fpOk (Nat.le_refl _) (I1.hok.fresh (Nat.le_refl _))
section
variable {σ : St} {H : Hp} {K : PySem.W.Frag}
theorem st_enumT {ta : TA} {R : It → Hp → Prop} (h : ta σ H fun vs H1 => ∃ a xs, vs = [.ref a] ∧ SqT K H1 a xs ∧ R (Ite K a) H1) : iEnumT K ta σ H R := h
theorem enumT_for {g : TG} {tb : TS} {D : Ends} {a : Addr} {xs : List V} (hq : SqT K H a xs) (Pv : Nat → St → Hp → Prop) (h0 : Pv 0 σ H) (hk : ∀ i σ H', Pv i σ H' → SqT K H' a xs)
    (hs : ∀ i x σ H p, xs[i]? = some x → Pv i σ H → H p = none → g (.ref p) σ (upd H p (.tup [.int i, x])) fun σ2 H2 => tb { D with nx := Pv (i + 1), ct := Pv (i + 1), bk := D.nx } σ2 H2) (hd : ∀ σ H, Pv xs.length σ H → D.nx σ H) :
    ∃ b ys, [V.ref a] = [.ref b] ∧ SqT K H b ys ∧ ForW g tb D σ (Ite K b) H := by
  refine ⟨a, xs, rfl, hq, fun i m σ H => m = xs.length - i ∧ i ≤ xs.length ∧ Pv i σ H, ⟨xs.length, by simp, Nat.zero_le _, h0⟩, ?_⟩
  rintro i m σ H ⟨rfl, hi, p⟩
  have sq := hk i σ H p
  by_cases hlt : i < xs.length
  · refine .inr ⟨⟨xs, xs[i], sq, by simp [hlt]⟩, Pv (i + 1), fun σ' H' p' => ⟨xs.length - (i + 1), by omega, rfl, hlt, p'⟩, fun x H' y => ?_⟩
    obtain ⟨t, z, rfl, ht, hz, rfl⟩ := y
    exact hs i z σ H t (hz xs sq) p ht
  · have e : i = xs.length := by omega
    subst e
    exact .inl ⟨⟨xs, sq, Nat.le_refl _⟩, hd σ H p⟩
theorem rng3_for {g : TG} {tb : TS} {D : Ends} {n : Nat} (hn : (n : Int) < 2 ^ 62) (Pv : Nat → St → Hp → Prop) (p0 : Pv 0 σ H)
    (hs : ∀ (i : Nat) σ H, i < n → Pv i σ H → g (.int ((n : Int) - 1 - i)) σ H fun σ2 H2 => tb { D with nx := Pv (i + 1), ct := Pv (i + 1), bk := D.nx } σ2 H2) (hd : ∀ σ H, Pv n σ H → D.nx σ H) :
    ∃ m : Nat, [V.int ((n : Int) - 1), V.int (-1), V.int (-1)] = [.int ((m : Int) - 1), .int (-1), .int (-1)] ∧ (m : Int) < 2 ^ 62 ∧ ForW g tb D σ (Itv m) H := by
  obtain ⟨m, e, h1, h2⟩ := rev_for hn Pv p0 hs hd
  injection e with e
  injection e with e
  have : n = m := by omega
  subst this
  exact ⟨n, rfl, h1, h2⟩
end
end L2

local macro_rules | `(tactic| walk_at "step") => `(tactic| (repeat (first | (with_reducible first | refine L2.st_seq ?_ | refine L2.iteT ?_ | refine L2.iteF ?_ | refine L2.st_asg ?_ | refine L2.st_name ?_ | refine L2.st_C ?_ | refine L2.st_op ?_ | refine L2.st_un ?_ | refine L2.st_ret ?_ | refine L2.st_retN ?_ | refine L2.st_drop ?_ | refine L2.st_if ?_ | refine L2.st_ifE ?_ | refine L2.st_test ?_ | refine L2.st_B ?_ | refine L2.st_bl ?_ | refine L2.st_and ?_ | refine L2.st_or ?_ | refine L2.st_not ?_ | refine L2.st_andV ?_ | refine L2.st_orV ?_ | refine L2.st_notV ?_ | refine L2.st_nil ?_ | refine L2.st_cons ?_ | refine L2.st_tup ?_ | refine L2.st_lst ?_ | refine L2.st_call ?_ | refine L2.st_CB ?_ | refine L2.st_tt ?_ | refine L2.st_break ?_ | refine L2.st_cont ?_ | refine L2.st_next ?_ | refine L2.st_sub ?_ | refine L2.st_bm ?_ | refine L2.st_chain ?_ | refine L2.st_for ?_ | refine L2.st_comp ?_ | refine L2.st_any ?_ | refine L2.st_rng1 ?_ | refine L2.st_rng2 ?_ | refine L2.st_rev ?_ | refine L2.st_sl ?_ | refine L2.st_part ?_ | refine L2.st_nopart ?_ | refine L2.st_int ?_ | refine L2.st_repl ?_ | refine L2.st_enumS ?_ | refine L2.st_iStr ?_ | refine L2.st_bm0 ?_ | refine L2.st_rng3 ?_ | refine L2.st_enumT ?_ | refine L2.st_rev3 ?_ | refine L2.v_min ?_ | refine L2.v_max ?_ | refine L2.st_strs ?_ | refine L2.v_addI ?_ | refine L2.v_subI ?_ | refine L2.v_ltI ?_ | refine L2.v_leI ?_ | refine L2.v_gtI ?_ | refine L2.v_geI ?_ | refine L2.v_eqI ?_ | refine L2.v_eqS ?_ | refine L2.v_neS ?_ | refine L2.v_neI ?_ | refine L2.v_is ?_ | refine L2.v_isnot ?_) | ((with_reducible refine' L2.st_var ?ev ?_); (case ev => exact rfl)) | ((with_reducible refine L2.v_mod ?ec ?_); (case ec => first | decide | omega | assumption)) | ((with_reducible refine L2.v_fdiv ?ec ?_); (case ec => first | exact ⟨by decide, by decide⟩ | exact ⟨by omega, by omega⟩)))))
namespace My
open PySem L2 PyProof.Rows
/-! ### a book's rows -/
structure Row where
  name : Str
  sort : Str
  host : Str
  shuts : List Str
  bars : List Str
def Row.da (r : Row) : PyData := .tuple [.str r.name, .str r.sort, .str r.host, .tuple (sDa r.shuts), .tuple (sDa r.bars)]
def oV : Option Str → V
  | some s => .str s
  | none => .non
section
variable {K : PySem.W.Frag} {H H' : Hp} {Q : VK}
theorem row_parts {r : Row} {v : V} (h : Dv K H r.da v) : ∃ b sv bv, v = .ref b ∧ SqT K H b [.str r.name, .str r.sort, .str r.host, sv, bv] ∧ Dv K H (.tuple (sDa r.shuts)) sv ∧ Dv K H (.tuple (sDa r.bars)) bv := by
  obtain ⟨b, ys, rfl, hb, h⟩ := dv_tuple.mp h
  rw [Dvs] at h; obtain ⟨v1, r1, rfl, e1, h⟩ := h
  rw [Dvs] at h; obtain ⟨v2, r2, rfl, e2, h⟩ := h
  rw [Dvs] at h; obtain ⟨v3, r3, rfl, e3, h⟩ := h
  rw [Dvs] at h; obtain ⟨v4, r4, rfl, e4, h⟩ := h
  rw [Dvs] at h; obtain ⟨v5, r5, rfl, e5, h⟩ := h
  rw [Dvs] at h; subst h
  rw [dv_str.mp e1, dv_str.mp e2, dv_str.mp e3] at hb
  exact ⟨b, v4, v5, rfl, hb, e4, e5⟩
/-- rows: a list or a tuple of them -/
def Rws (K : PySem.W.Frag) (H : Hp) (v : V) (rs : List Row) : Prop := ∃ a vs, v = .ref a ∧ (SqL K H a vs ∨ SqT K H a vs) ∧ Dvs K H (rs.map Row.da) vs
theorem v_eqO {x : Str} {n : Option Str} (h : Q (.bl (decide (some x = n))) H) : rEqA K (.str x) (oV n) H Q := by
  cases n with
  | none => refine v_eq rfl ?_; have e : (decide ((V.str x) = oV none)) = decide (some x = none) := by simp [oV]
            rw [e]; exact h
  | some y => refine v_eq rfl ?_; have e : (decide ((V.str x) = oV (some y))) = decide (some x = some y) := by simp [oV]
              rw [e]; exact h
theorem v_eqS {x y : Str} (h : Q (.bl (decide (x = y))) H) : rEqA K (.str x) (.str y) H Q := by
  refine v_eq rfl ?_
  have e : (decide ((V.str x) = V.str y)) = decide (x = y) := by simp
  rw [e]; exact h
theorem v_neS {x y : Str} (h : Q (.bl (!decide (x = y))) H) : rNeA K (.str x) (.str y) H Q := by
  refine v_ne rfl ?_
  have e : (decide ((V.str x) = V.str y)) = decide (x = y) := by simp
  rw [e]; exact h
theorem v_eqI {x y : Int} (h : Q (.bl (decide (x = y))) H) : rEqA K (.int x) (.int y) H Q := by
  refine v_eq rfl ?_
  have e : (decide ((V.int x) = V.int y)) = decide (x = y) := by simp
  rw [e]; exact h
end

def rowOf (rs : List Row) (n : Option Str) : Option Row := rs.find? fun r => decide (some r.name = n)
def sortOf (rs : List Row) (n : Option Str) : Option Str := (rowOf rs n).map (·.sort)
def hostOf (rs : List Row) (n : Option Str) : Option Str := (rowOf rs n).bind fun r => if r.sort = ("frame" : Str) then some r.host else none
def frameOf (rs : List Row) (n : Option Str) : Option Str := (rs.find? fun r => decide (r.sort = ("frame" : Str)) && decide (some r.host = n)).map (·.name)

def sp_row_of (K : PySem.W.Frag) : Sp := fun vs H Q _ => ∃ v n rs, vs = [v, oV n] ∧ Rws K H v rs ∧ (rowOf rs n = none → Q .non H) ∧ ∀ r u, rowOf rs n = some r → Dv K H r.da u → Q u H
theorem len_row_of (K : PySem.W.Frag) : ∀ vs H Q E, sp_row_of K vs H Q E → vs.length = ["rows", "name"].length := by
  rintro vs H Q E ⟨v, n, rs, rfl, _⟩; rfl
def R_row_of (K : PySem.W.Frag) : TS :=
 (tSeq (tFor (iAny K (tVar 0)) (gName 2)
 (tIfS (tTest (tOp (rEqA K) (tOp (rIxA K) (tVar 2) (tC (.int 0))) (tVar 1)))
 (tRet (tVar 2)) tNext))
 (tRet (tC .non)))
theorem find_none_snoc {α : Type} {p : α → Bool} : ∀ {l : List α} {i : Nat} {x : α}, l[i]? = some x → (∀ y ∈ l.take i, p y = false) → p x = true → l.find? p = some x
  | y :: l, 0, x, e, _, hp => by cases e; rw [List.find?_cons, hp]
  | y :: l, i + 1, x, e, h, hp => by
    have hy : p y = false := h y (by simp)
    rw [List.find?_cons, hy]
    exact find_none_snoc (i := i) (by simpa using e) (fun z hz => h z (by simp [hz])) hp
theorem take_all {α : Type} {P : α → Prop} {l : List α} {i : Nat} {x : α} (e : l[i]? = some x) (h : ∀ y ∈ l.take i, P y) (hx : P x) : ∀ y ∈ l.take (i + 1), P y := by
  intro y hy
  rw [List.take_add_one, e] at hy
  rcases List.mem_append.mp hy with z | z
  · exact h y z
  · have : y = x := by simpa using z
    subst this; exact hx
theorem rd_row_of {K : PySem.W.Frag} {vs : List V} {H : Hp} {Q : VK} {E : XK} (h : sp_row_of K vs H Q E) : R_row_of K { nx := fun _ H' => Q .non H', rt := Q } (start ["rows", "name", "row"] vs) H := by
  obtain ⟨v, n, rs, rfl, ⟨a, xs, rfl, hq, hd⟩, h1, h2⟩ := h
  show R_row_of K _ [some (.ref a), some (oV n), none] H
  have hlen : xs.length = rs.length := by have := hd.length; simpa using this
  unfold R_row_of
  refine st_seq (st_for (st_any (st_var rfl ?_)))
  refine any_for hq (fun i σ H' => H' = H ∧ (∃ w, σ = [some (.ref a), some (oV n), w]) ∧ ∀ r ∈ rs.take i, decide (some r.name = n) = false) ⟨rfl, ⟨_, rfl⟩, by simp⟩ (fun hl i σ H' _ p => p.1 ▸ hl) (fun ht i σ H' _ p => p.1 ▸ ht) ?_ ?_
  · rintro i x σ H' hx ⟨rfl, ⟨w, rfl⟩, hn⟩
    obtain ⟨d, hd1, hd2⟩ := hd.get' hx
    rw [List.getElem?_map] at hd1
    obtain ⟨r, hr, rfl⟩ := Option.map_eq_some_iff.mp hd1
    obtain ⟨b, sv, bv, rfl, hb, hsv, hbv⟩ := row_parts hd2
    refine st_name (st_if (st_test (st_op (st_op (st_var rfl (st_C (v_ixT hb rfl (st_var rfl (v_eqO ⟨_, rfl, ?_⟩)))))))))
    by_cases e : some r.name = n
    · rw [decide_eq_true e, if_pos rfl]
      refine ⟨_, rfl, ?_⟩
      exact h2 r _ (find_none_snoc hr hn (decide_eq_true e)) hd2
    · rw [decide_eq_false e, if_neg Bool.false_ne_true]
      exact st_next ⟨rfl, ⟨_, rfl⟩, take_all hr hn (decide_eq_false e)⟩
  · rintro σ H' ⟨rfl, ⟨w, rfl⟩, hn⟩
    show Q .non H'
    refine h1 ?_
    unfold rowOf
    rw [List.find?_eq_none]
    intro r hr
    rw [hlen, List.take_length] at hn
    simp [hn r hr]
end My

namespace My
open PySem L2 PyProof.Rows
variable {K : PySem.W.Frag} {vs : List V} {H : Hp} {Q : VK} {E : XK}

def sp_sort_of (K : PySem.W.Frag) : Sp := fun vs H Q _ => ∃ v n rs, vs = [v, oV n] ∧ Rws K H v rs ∧ Q (oV (sortOf rs n)) H
theorem len_sort_of (K : PySem.W.Frag) : ∀ vs H Q E, sp_sort_of K vs H Q E → vs.length = ["book", "name"].length := by rintro vs H Q E ⟨v, n, rs, rfl, _⟩; rfl
def R_sort_of (K : PySem.W.Frag) : TS :=
 (tSeq (tAsg (tCall (sp_row_of K) [] E0 (tCons (tVar 0) (tCons (tVar 1) tNil))) (gName 2))
 (tRet (tIf (tTest (tOp rIsA (tVar 2) (tC .non))) (tC .non) (tOp (rIxA K) (tVar 2) (tC (.int 1))))))
theorem rd_sort_of (h : sp_sort_of K vs H Q E) : R_sort_of K { nx := fun _ H' => Q .non H', rt := Q } (start ["book", "name", "row"] vs) H := by
  obtain ⟨v, n, rs, rfl, hR, q⟩ := h
  show R_sort_of K _ [some v, some (oV n), none] H
  refine ⟨_, rfl, _, rfl, v, n, rs, rfl, hR, fun e => ?_, fun r u e hu => ?_⟩
  · refine ⟨_, rfl, rfl, _, rfl, ?_⟩
    show Q .non H
    have : sortOf rs n = none := by unfold sortOf; rw [e]; rfl
    rw [this] at q; exact q
  · obtain ⟨b, sv, bv, rfl, hb, _, _⟩ := row_parts hu
    refine ⟨_, rfl, rfl, _, rfl, ?_⟩
    show (if decide (V.ref b = V.non) = true then _ else _)
    rw [decide_eq_false (by simp)]; refine iteF ?_
    refine ⟨_, rfl, v_ixT hb rfl ?_⟩
    have : sortOf rs n = some r.sort := by unfold sortOf; rw [e]; rfl
    rw [this] at q; exact q

def sp_host_of (K : PySem.W.Frag) : Sp := fun vs H Q _ => ∃ v n rs, vs = [v, oV n] ∧ Rws K H v rs ∧ Q (oV (hostOf rs n)) H
theorem len_host_of (K : PySem.W.Frag) : ∀ vs H Q E, sp_host_of K vs H Q E → vs.length = ["book", "name"].length := by rintro vs H Q E ⟨v, n, rs, rfl, _⟩; rfl
def R_host_of (K : PySem.W.Frag) : TS :=
 (tSeq (tAsg (tCall (sp_row_of K) [] E0 (tCons (tVar 0) (tCons (tVar 1) tNil))) (gName 2))
 (tSeq (tIfS (tOr (tTest (tOp rIsA (tVar 2) (tC .non))) (tTest (tOp (rNeA K) (tOp (rIxA K) (tVar 2) (tC (.int 1))) (tC (.str ("frame" : Str))))))
 (tRet (tC .non)) tNext)
 (tRet (tOp (rIxA K) (tVar 2) (tC (.int 2))))))
theorem rd_host_of (h : sp_host_of K vs H Q E) : R_host_of K { nx := fun _ H' => Q .non H', rt := Q } (start ["book", "name", "row"] vs) H := by
  obtain ⟨v, n, rs, rfl, hR, q⟩ := h
  show R_host_of K _ [some v, some (oV n), none] H
  refine ⟨_, rfl, _, rfl, v, n, rs, rfl, hR, fun e => ?_, fun r u e hu => ?_⟩
  · refine ⟨_, rfl, rfl, _, rfl, ?_⟩
    show Q .non H
    have : hostOf rs n = none := by unfold hostOf; rw [e]; rfl
    rw [this] at q; exact q
  · obtain ⟨b, sv, bv, rfl, hb, _, _⟩ := row_parts hu
    refine ⟨_, rfl, rfl, _, rfl, ?_⟩
    show (if decide (V.ref b = V.non) = true then _ else _)
    rw [decide_eq_false (by simp)]; refine iteF ?_
    refine ⟨_, rfl, v_ixT hb rfl (v_neS ⟨_, rfl, ?_⟩)⟩
    by_cases hs : r.sort = ("frame" : Str)
    · rw [decide_eq_true hs, Bool.not_true]; refine iteF ?_
      refine ⟨_, rfl, v_ixT hb rfl ?_⟩
      have : hostOf rs n = some r.host := by unfold hostOf; rw [e]; show (if r.sort = ("frame" : Str) then some r.host else none) = _; rw [if_pos hs]
      rw [this] at q; exact q
    · rw [decide_eq_false hs, Bool.not_false]; refine iteT ?_
      show Q .non H
      have : hostOf rs n = none := by unfold hostOf; rw [e]; show (if r.sort = ("frame" : Str) then some r.host else none) = _; rw [if_neg hs]
      rw [this] at q; exact q

def sp_frame_of (K : PySem.W.Frag) : Sp := fun vs H Q _ => ∃ v n rs, vs = [v, oV n] ∧ Rws K H v rs ∧ Q (oV (frameOf rs n)) H
theorem len_frame_of (K : PySem.W.Frag) : ∀ vs H Q E, sp_frame_of K vs H Q E → vs.length = ["book", "name"].length := by rintro vs H Q E ⟨v, n, rs, rfl, _⟩; rfl
def R_frame_of (K : PySem.W.Frag) : TS :=
 (tSeq (tFor (iAny K (tVar 0)) (gName 2)
 (tIfS (tAnd (tTest (tOp (rEqA K) (tOp (rIxA K) (tVar 2) (tC (.int 1))) (tC (.str ("frame" : Str))))) (tTest (tOp (rEqA K) (tOp (rIxA K) (tVar 2) (tC (.int 2))) (tVar 1))))
 (tRet (tOp (rIxA K) (tVar 2) (tC (.int 0)))) tNext))
 (tRet (tC .non)))
theorem rd_frame_of (h : sp_frame_of K vs H Q E) : R_frame_of K { nx := fun _ H' => Q .non H', rt := Q } (start ["book", "name", "row"] vs) H := by
  obtain ⟨v, n, rs, rfl, ⟨a, xs, rfl, hq, hd⟩, q⟩ := h
  show R_frame_of K _ [some (.ref a), some (oV n), none] H
  have hlen : xs.length = rs.length := by have := hd.length; simpa using this
  refine ⟨_, rfl, any_for hq (fun i σ H' => H' = H ∧ (∃ w, σ = [some (.ref a), some (oV n), w]) ∧ ∀ r ∈ rs.take i, (decide (r.sort = ("frame" : Str)) && decide (some r.host = n)) = false) ⟨rfl, ⟨_, rfl⟩, by simp⟩ (fun hl i σ H' _ p => p.1 ▸ hl) (fun ht i σ H' _ p => p.1 ▸ ht) ?_ ?_⟩
  · rintro i x σ H' hx ⟨rfl, ⟨w, rfl⟩, hn⟩
    obtain ⟨d, hd1, hd2⟩ := hd.get' hx
    rw [List.getElem?_map] at hd1
    obtain ⟨r, hr, rfl⟩ := Option.map_eq_some_iff.mp hd1
    obtain ⟨b, sv, bv, rfl, hb, hsv, hbv⟩ := row_parts hd2
    refine ⟨_, rfl, v_ixT hb rfl (v_eqS ⟨_, rfl, ?_⟩)⟩
    by_cases hs : r.sort = ("frame" : Str)
    · rw [decide_eq_true hs]; refine iteT ?_
      refine ⟨_, rfl, v_ixT hb rfl ⟨_, rfl, v_eqO ⟨_, rfl, ?_⟩⟩⟩
      by_cases e : some r.host = n
      · rw [decide_eq_true e]; refine iteT ?_
        refine ⟨_, rfl, v_ixT hb rfl ?_⟩
        have : frameOf rs n = some r.name := by
          unfold frameOf
          rw [find_none_snoc hr hn (by rw [decide_eq_true hs, decide_eq_true e]; rfl)]; rfl
        rw [this] at q; exact q
      · rw [decide_eq_false e]; refine iteF ?_
        exact ⟨rfl, ⟨_, rfl⟩, take_all hr hn (by rw [decide_eq_false e, Bool.and_false])⟩
    · rw [decide_eq_false hs]; refine iteF ?_
      refine iteF ?_
      exact ⟨rfl, ⟨_, rfl⟩, take_all hr hn (by rw [decide_eq_false hs, Bool.false_and])⟩
  · rintro σ H' ⟨rfl, ⟨w, rfl⟩, hn⟩
    show Q .non H'
    have : frameOf rs n = none := by
      unfold frameOf
      rw [List.find?_eq_none.mpr]
      · rfl
      · intro r hr
        rw [hlen, List.take_length] at hn
        rw [hn r hr]; exact Bool.false_ne_true
    rw [this] at q; exact q

/-! ### going up from host to frame -/
def ups (rs : List Row) : Nat → Option Str → List Str
  | 0, _ => []
  | k + 1, n => match frameOf rs n with
    | none => []
    | some y => y :: ups rs k (some y)
def Falls (rs : List Row) (rk : Str → Nat) : Prop := ∀ x y, frameOf rs (some x) = some y → rk y < rk x
theorem ups_more {rs : List Row} {rk : Str → Nat} (f : Falls rs rk) : ∀ (k : Nat) (x : Str), rk x ≤ k → ups rs k (some x) = ups rs (rk x) (some x)
  | 0, x, h => by have : rk x = 0 := by omega
                  rw [this]
  | k + 1, x, h => by
    cases e : frameOf rs (some x) with
    | none =>
      have e1 : ups rs (k + 1) (some x) = [] := by rw [ups, e]
      rw [e1]
      cases e2 : rk x with
      | zero => rfl
      | succ m => rw [ups, e]
    | some y =>
      have hy := f x y e
      have e1 : ups rs (k + 1) (some x) = y :: ups rs k (some y) := by rw [ups, e]
      rw [e1, ups_more f k y (by omega)]
      cases e2 : rk x with
      | zero => omega
      | succ m =>
        have e3 : ups rs (m + 1) (some x) = y :: ups rs m (some y) := by rw [ups, e]
        rw [e3, ups_more f m y (by omega)]
theorem ups_cons {rs : List Row} {rk : Str → Nat} (f : Falls rs rk) {x y : Str} (e : frameOf rs (some x) = some y) : ups rs (rk x) (some x) = y :: ups rs (rk y) (some y) := by
  have hy := f x y e
  cases e2 : rk x with
  | zero => omega
  | succ m =>
    have e3 : ups rs (m + 1) (some x) = y :: ups rs m (some y) := by rw [ups, e]
    rw [e3, ups_more f m y (by omega)]
theorem ups_nil {rs : List Row} {k : Nat} {x : Option Str} (e : frameOf rs x = none) : ups rs k x = [] := by
  cases k with
  | zero => rfl
  | succ m => rw [ups, e]

def sp_belongs (K : PySem.W.Frag) : Sp := fun vs H Q _ => ∃ v n g rs rk, vs = [v, .str n, .str g] ∧ Rws K H v rs ∧ Falls rs rk ∧ Q (.bl (decide (g ∈ ups rs (rk n) (some n)))) H
theorem len_belongs (K : PySem.W.Frag) : ∀ vs H Q E, sp_belongs K vs H Q E → vs.length = ["book", "name", "frame"].length := by rintro vs H Q E ⟨v, n, g, rs, rk, rfl, _⟩; rfl
def R_belongs (K : PySem.W.Frag) : TS :=
 (tSeq (tAsg (tCall (sp_frame_of K) [] E0 (tCons (tVar 0) (tCons (tVar 1) tNil))) (gName 3))
 (tSeq (tWhile (tTest (tOp rIsNotA (tVar 3) (tC .non)))
 (tSeq (tIfS (tTest (tOp (rEqA K) (tVar 3) (tVar 2)))
 (tRet (tC (.bl true))) tNext)
 (tAsg (tCall (sp_frame_of K) [] E0 (tCons (tVar 0) (tCons (tVar 3) tNil))) (gName 3))))
 (tRet (tC (.bl false)))))
def upTo (rs : List Row) (rk : Str → Nat) : Option Str → List Str
  | none => []
  | some y => y :: ups rs (rk y) (some y)
theorem ups_upTo {rs : List Row} {rk : Str → Nat} (f : Falls rs rk) (x : Str) : ups rs (rk x) (some x) = upTo rs rk (frameOf rs (some x)) := by
  cases e : frameOf rs (some x) with
  | none => rw [ups_nil e]; rfl
  | some y => rw [ups_cons f e]; rfl
theorem rd_belongs (h : sp_belongs K vs H Q E) : R_belongs K { nx := fun _ H' => Q .non H', rt := Q } (start ["book", "name", "frame", "above"] vs) H := by
  obtain ⟨v, n, g, rs, rk, rfl, hR, f, q⟩ := h
  show R_belongs K _ [some v, some (.str n), some (.str g), none] H
  refine ⟨_, rfl, _, rfl, v, some n, rs, rfl, hR, ?_⟩
  refine while_by (fun σ H' => H' = H ∧ ∃ x, σ = [some v, some (.str n), some (.str g), some (oV x)] ∧ (g ∈ ups rs (rk n) (some n) ↔ g ∈ upTo rs rk x))
    (fun σ _ => match σ with | [_, _, _, some (.str y)] => rk y + 1 | _ => 0) ⟨rfl, frameOf rs (some n), rfl, by rw [ups_upTo f]⟩ ?_ ?_
  · rintro σ H' ⟨rfl, x, rfl, hx⟩
    cases x with
    | none =>
      refine ⟨_, rfl, rfl, _, rfl, ?_⟩
      show Q (.bl false) H'
      have : ¬ g ∈ ups rs (rk n) (some n) := fun z => by have := hx.mp z; simp [upTo] at this
      rw [decide_eq_false this] at q; exact q
    | some y =>
      refine ⟨_, rfl, rfl, _, rfl, ?_⟩
      show (if (!decide (V.str y = V.non)) = true then _ else _)
      rw [decide_eq_false (by simp), Bool.not_false]; refine iteT ?_
      refine ⟨_, rfl, _, rfl, v_eqS ⟨_, rfl, ?_⟩⟩
      by_cases e : y = g
      · rw [decide_eq_true e]; refine iteT ?_
        show Q (.bl true) H'
        have : g ∈ ups rs (rk n) (some n) := hx.mpr (by subst e; simp [upTo])
        rw [decide_eq_true this] at q; exact q
      · rw [decide_eq_false e]; refine iteF ?_
        refine ⟨_, rfl, _, rfl, v, some y, rs, rfl, hR, ?_⟩
        refine ⟨⟨rfl, frameOf rs (some y), rfl, ?_⟩, ?_⟩
        · rw [hx]
          show g ∈ y :: ups rs (rk y) (some y) ↔ _
          rw [ups_upTo f, List.mem_cons]
          exact ⟨fun z => z.resolve_left fun z => e z.symm, Or.inr⟩
        · show (match [some v, some (V.str n), some (V.str g), some (oV (frameOf rs (some y)))] with | [_, _, _, some (.str y)] => rk y + 1 | _ => 0) < rk y + 1
          cases e2 : frameOf rs (some y) with
          | none => exact Nat.succ_pos _
          | some z => have := f y z e2; show rk z + 1 < rk y + 1; omega
  · rintro σ H' Q1 Q2 hQ ⟨v1, e1, e2, k, e3, q1⟩
    exact ⟨v1, e1, e2, k, e3, hQ _ _ q1⟩
end My

namespace My
open PySem L2
variable {K : PySem.W.Frag} {vs : List V} {H : Hp} {Q : VK} {E : XK}

/-! ### the law's own small defs: whatever they draw -/
def sp__law_cell_at (K : PySem.W.Frag) : Sp := fun vs H Q _ => ∃ (a : Addr) (ns : List Int) (k : Int), vs = [.ref a, .int k] ∧ SqL K H a (ns.map V.int) ∧ 0 ≤ k ∧ ∀ n : Int, Q (.int n) H
theorem len__law_cell_at (K : PySem.W.Frag) : ∀ vs H Q E, sp__law_cell_at K vs H Q E → vs.length = ["_law_script", "_law_k"].length := by rintro vs H Q E ⟨v, n, rs, rfl, _⟩; rfl
def R__law_cell_at (K : PySem.W.Frag) : TS :=
 (tSeq (tIfS (tTest (tOp rLtA (tVar 1) (tCB (rLenA K) (tCons (tVar 0) tNil))))
 (tRet (tOp (rIxA K) (tVar 0) (tVar 1))) tNext)
 (tRet (tC (.int 0))))
theorem rd__law_cell_at (h : sp__law_cell_at K vs H Q E) : R__law_cell_at K { nx := fun _ H' => Q .non H', rt := Q } (start ["_law_script", "_law_k"] vs) H := by
  obtain ⟨a, ns, k, rfl, hS, h0, q⟩ := h
  show R__law_cell_at K _ [some (.ref a), some (.int k)] H
  unfold R__law_cell_at
  walk_at "step"
  refine v_lenQ (.inl hS) ?_
  walk_at "step"
  rw [List.length_map]
  by_cases hk : k < (ns.length : Int)
  · rw [decide_eq_true hk]; refine iteT ?_
    have hk' : k.toNat < ns.length := by omega
    walk_at "step"
    refine v_ixL hS (v := .int ns[k.toNat]) ?_ (q _)
    have ek : k = ((k.toNat : Nat) : Int) := by omega
    have e : atI (ns.map V.int) ((k.toNat : Nat) : Int) = some (.int ns[k.toNat]) := atI_nat (by rw [List.getElem?_map, List.getElem?_eq_getElem hk'] <;> rfl)
    rw [← ek] at e
    exact e
  · rw [decide_eq_false hk]; refine iteF ?_
    exact q 0

def sp__law_pot (K : PySem.W.Frag) : Sp := fun vs H Q _ => ∃ c : Int, vs = [.int c] ∧ ∀ (p : Addr) (n : Int), H p = none → Q (.ref p) (upd H p (.lst [.int n]))
theorem len__law_pot (K : PySem.W.Frag) : ∀ vs H Q E, sp__law_pot K vs H Q E → vs.length = ["_law_cell"].length := by rintro vs H Q E ⟨c, rfl, _⟩; rfl
def R__law_pot (K : PySem.W.Frag) : TS :=
 (tSeq (tIfS (tTest (tOp (rEqA K) (tOp (rI (fun _ j => 0 < j) fun i j => .int (i % j)) (tVar 0) (tC (.int 2))) (tC (.int 0))))
 (tRet (tLst (tCons (tOp (rI CDiv fun i j => .int (i / j)) (tVar 0) (tC (.int 2))) tNil))) tNext)
 (tSeq (tAsg (tC (.int 0)) (gName 1))
 (tSeq (tFor (iRng1 (tCons (tC (.int 8)) tNil)) (gName 2)
 (tSeq (tAsg (tOp (rI (fun _ j => 0 < j) fun i j => .int (i % j)) (tOp rMulA (tOp (rAddA K) (tOp (rAddA K) (tOp (rI (fun _ j => 0 < j) fun i j => .int (i % j)) (tOp (rI CDiv fun i j => .int (i / j)) (tVar 0) (tC (.int 2))) (tC (.int 2147483629))) (tOp rMulA (tC (.int 7919)) (tVar 2))) (tC (.int 1))) (tC (.int 48271))) (tC (.int 2147483647))) (gName 3))
 (tSeq (tAsg (tOp (rI (fun _ j => 0 < j) fun i j => .int (i % j)) (tOp (rAddA K) (tOp (rAddA K) (tOp rMulA (tVar 3) (tVar 3)) (tOp rMulA (tC (.int 69621)) (tVar 2))) (tC (.int 7))) (tC (.int 2147483587))) (gName 3))
 (tAsg (tOp (rAddA K) (tOp rMulA (tVar 1) (tC (.int 2147483587))) (tVar 3)) (gName 1)))))
 (tRet (tLst (tCons (tVar 1) tNil))))))
theorem rd__law_pot (h : sp__law_pot K vs H Q E) : R__law_pot K { nx := fun _ H' => Q .non H', rt := Q } (start ["_law_cell", "_law_number", "_law_j", "_law_more"] vs) H := by
  obtain ⟨c, rfl, q⟩ := h
  show R__law_pot K _ [some (.int c), none, none, none] H
  unfold R__law_pot
  walk_at "step"
  have one : (1 : Nat) ≤ sizeLine := by rw [sizeLine_eq]; decide
  by_cases e : c % 2 = 0
  · rw [decide_eq_true e]; refine iteT ?_
    walk_at "step"
    exact ⟨one, fun p hp => q p _ hp⟩
  · rw [decide_eq_false e]; refine iteF ?_
    walk_at "step"
    refine rng1_for (n := 8) (by decide) (by decide) (fun i σ H' => H' = H ∧ ∃ n a b, σ = [some (.int c), some (.int n), a, b]) ⟨rfl, 0, none, none, rfl⟩ ?_ ?_
    · rintro i σ H' hi ⟨rfl, n, a, b, rfl⟩
      walk_at "step"
      refine v_mulI (.inl ⟨by decide, by decide⟩) ?_
      walk_at "step"
      refine v_mulI (.inr ⟨by decide, by decide⟩) ?_
      walk_at "step"
      generalize hm : (c / 2 % 2147483629 + 7919 * (i : Int) + 1) * 48271 % 2147483647 = m
      have m0 : 0 ≤ m := by rw [← hm]; exact Int.emod_nonneg _ (by decide)
      have m1 : m < 2147483647 := by rw [← hm]; exact Int.emod_lt_of_pos _ (by decide)
      refine v_mulI (.inl ⟨by omega, by omega⟩) ?_
      walk_at "step"
      refine v_mulI (.inl ⟨by decide, by decide⟩) ?_
      walk_at "step"
      refine v_mulI (.inr ⟨by decide, by decide⟩) ?_
      walk_at "step"
      exact ⟨rfl, _, _, _, rfl⟩
    · rintro σ H' ⟨rfl, n, a, b, rfl⟩
      walk_at "step"
      exact ⟨one, fun p hp => q p _ hp⟩

def sp__law_take (K : PySem.W.Frag) : Sp := fun vs H Q _ => ∃ (p : Addr) (m n : Int), vs = [.ref p, .int m] ∧ H p = some (.lst [.int n]) ∧ 0 < m ∧ m < 1073741824 ∧ ∀ r n' : Int, 0 ≤ r → r < m → Q (.int r) (upd H p (.lst [.int n']))
theorem len__law_take (K : PySem.W.Frag) : ∀ vs H Q E, sp__law_take K vs H Q E → vs.length = ["_law_pot_here", "_law_most"].length := by rintro vs H Q E ⟨p, m, n, rfl, _⟩; rfl
def R__law_take (K : PySem.W.Frag) : TS :=
 (tSeq (tAsg (tOp (rI (fun _ j => 0 < j) fun i j => .int (i % j)) (tOp (rIxA K) (tVar 0) (tC (.int 0))) (tVar 1)) (gName 2))
 (tSeq (tAsg (tOp (rI CDiv fun i j => .int (i / j)) (tOp (rIxA K) (tVar 0) (tC (.int 0))) (tVar 1)) (gSub (tVar 0) (tC (.int 0)) rSetA))
 (tRet (tVar 2))))
theorem rd__law_take (h : sp__law_take K vs H Q E) : R__law_take K { nx := fun _ H' => Q .non H', rt := Q } (start ["_law_pot_here", "_law_most", "_law_number"] vs) H := by
  obtain ⟨p, m, n, rfl, hp, h0, h1, q⟩ := h
  show R__law_take K _ [some (.ref p), some (.int m), none] H
  unfold R__law_take
  walk_at "step"
  refine v_ixL (SqL.of hp) (v := .int n) rfl ?_
  walk_at "step"
  refine v_ixL (SqL.of hp) (v := .int n) rfl ?_
  walk_at "step"
  refine .inl (v_setL hp (j := 0) rfl ?_)
  walk_at "step"
  exact (q _ _ (Int.emod_nonneg _ (by omega)) (Int.emod_lt_of_pos _ h0))

/-- some of these texts, rising -/
structure SomeOf (ys xs : List Str) : Prop where
  sub : ∃ zs, zs.Sublist xs ∧ ys.Perm zs
  rise : PyProof.Rows.sortedS ys = true
theorem SomeOf.mem {ys xs : List Str} (h : SomeOf ys xs) {y : Str} (hy : y ∈ ys) : y ∈ xs := by
  obtain ⟨zs, s, p⟩ := h.sub
  exact s.subset (p.mem_iff.mp hy)
theorem SomeOf.nodup {ys xs : List Str} (h : SomeOf ys xs) (hx : xs.Nodup) : ys.Nodup := by
  obtain ⟨zs, s, p⟩ := h.sub
  exact p.nodup_iff.mpr (hx.sublist s)
def sp__law_some (K : PySem.W.Frag) : Sp := fun vs H Q _ => ∃ (p a : Addr) (n : Int) (xs : List Str), vs = [.ref p, .ref a] ∧ H p = some (.lst [.int n]) ∧ SqL K H a (strV xs) ∧ xs.length < 64 ∧ p ≠ a ∧
  ∀ (t : Addr) (ys : List Str) (n' : Int) (H' : Hp), SomeOf ys xs → But [p] H H' → H' p = some (.lst [.int n']) → H' t = some (.tup (strV ys)) → Q (.ref t) H'
theorem len__law_some (K : PySem.W.Frag) : ∀ vs H Q E, sp__law_some K vs H Q E → vs.length = ["_law_pot_here", "_law_names_here"].length := by rintro vs H Q E ⟨p, a, n, xs, rfl, _⟩; rfl
def R__law_some (K : PySem.W.Frag) : TS :=
 (tRet (tCB (rTupleA K) (tCons (tCB (rSortedS K) (tCons (tComp [some 0, none] (iAny K (tVar 1)) (gName 1) (tTest (tOp (rEqA K) (tCall (sp__law_take K) [] E0 (tCons (tVar 0) (tCons (tC (.int 4)) tNil))) (tC (.int 1)))) (tVar 1)) tNil)) tNil)))
theorem strV_get {xs : List Str} {i : Nat} {x : V} (h : (strV xs)[i]? = some x) : ∃ y, xs[i]? = some y ∧ x = .str y := by
  unfold strV at h
  rw [List.getElem?_map] at h
  obtain ⟨y, hy, e⟩ := Option.map_eq_some_iff.mp h
  exact ⟨y, hy, e.symm⟩
theorem strV_len (xs : List Str) : (strV xs).length = xs.length := List.length_map _
theorem small64 {n : Nat} (h : n ≤ 1000) : n ≤ sizeLine := Nat.le_of_lt (small1000 h)
theorem rd__law_some (h : sp__law_some K vs H Q E) : R__law_some K { nx := fun _ H' => Q .non H', rt := Q } (start ["_law_pot_here", "_law_names_here"] vs) H := by
  obtain ⟨p, a, n, xs, rfl, hp, ha, hx, hpa, q⟩ := h
  show R__law_some K _ [some (.ref p), some (.ref a)] H
  unfold R__law_some
  walk_at "step"
  refine any_compL (xs := strV xs) ha (fun i ys H' => But [p] H H' ∧ (∃ n', H' p = some (.lst [.int n'])) ∧ ∃ zs, ys = strV zs ∧ zs.Sublist (xs.take i)) ⟨But.refl _ _, ⟨n, hp⟩, [], rfl, List.nil_sublist _⟩ ?_ ?_ ?_ ?_
  · rintro i ys H' hi ⟨_, _, zs, rfl, hz⟩
    rw [strV_len]
    have := hz.length_le
    rw [List.length_take] at this
    exact small64 (by omega)
  · rintro i ys H' hi ⟨hb, _⟩
    exact L2.But.sqL hb (by simpa using hpa.symm) ha
  · rintro i x ys H' hx' ⟨hb, ⟨n', hp'⟩, zs, rfl, hz⟩
    obtain ⟨y, hy, rfl⟩ := strV_get hx'
    walk_at "step"
    refine ⟨p, 4, n', rfl, hp', by decide, by decide, fun r n2 _ _ => ?_⟩
    walk_at "step"
    have b2 : But [p] H (upd H' p (.lst [.int n2])) := hb.trans (But.upd (by simp) _)
    have s2 : zs.Sublist (xs.take (i + 1)) := hz.trans (by rw [List.take_add_one]; exact List.sublist_append_left _ _)
    by_cases e : r = 1
    · rw [decide_eq_true e]; refine iteT ?_
      walk_at "step"
      refine ⟨b2, ⟨n2, upd_same⟩, zs ++ [y], by simp [strV], ?_⟩
      rw [List.take_add_one, hy]
      exact hz.append (List.Sublist.refl _)
    · rw [decide_eq_false e]; refine iteF ?_
      exact ⟨b2, ⟨n2, upd_same⟩, zs, rfl, s2⟩
  · rintro ys H' ⟨hb, ⟨n', hp'⟩, zs, rfl, hz⟩ l hl
    rw [strV_len, List.take_length] at hz
    walk_at "step"
    refine ⟨l, zs, rfl, SqL.of upd_same, ?_, fun l2 ys' hperm hsort hl2 => ?_⟩
    · have := hz.length_le; omega
    · walk_at "step"
      refine ⟨l2, _, rfl, .inl ⟨SqL.of upd_same, fun t ht => ?_⟩⟩
      have pl : p ≠ l := ne_of_none hp' hl
      have h1 : (upd H' l (.lst (strV zs))) p = some (.lst [.int n']) := by rw [upd_ne pl]; exact hp'
      have pl2 : p ≠ l2 := ne_of_none h1 hl2
      have h2 : (upd (upd H' l (.lst (strV zs))) l2 (.lst (strV ys'))) p = some (.lst [.int n']) := by rw [upd_ne pl2]; exact h1
      have pt : p ≠ t := ne_of_none h2 ht
      exact q t ys' n' _ ⟨⟨zs, hz, hperm⟩, hsort⟩ (L2.But.new (L2.But.new (L2.But.new hb hl _) hl2 _) ht _) (by rw [upd_ne pt]; exact h2) upd_same
end My

namespace My
open PySem L2
/-! ### names: the mathematics -/
def ch (c : Nat) : Str := ⟨#[c]⟩
def Lt : Str := "abcdefghijklmnopqrstuvwxyz"
theorem str_ext {x y : Str} (h : x.cps.toList = y.cps.toList) : x = y := by
  obtain ⟨a⟩ := x
  obtain ⟨b⟩ := y
  exact congrArg Str.mk (Array.toList_inj.mp h)
theorem lt_get : ∀ j : Nat, j < 26 → Lt.cps.toList[j]? = some (97 + j) := by decide +kernel
theorem lt_len : Lt.length = 26 := by decide +kernel
theorem lt_at {i : Int} (h0 : 0 ≤ i) (h1 : i < 26) : atI Lt.cps.toList i = some (97 + i.toNat) := by
  have e : i = ((i.toNat : Nat) : Int) := by omega
  have q : atI Lt.cps.toList ((i.toNat : Nat) : Int) = some (97 + i.toNat) := atI_nat (lt_get _ (by omega))
  rw [← e] at q
  exact q
theorem lt_occ : ∀ c : Nat, c < 26 → Builtin.Str.occurrences Lt (ch (97 + c)) 0 Lt.length 1 = [c] := by decide +kernel
theorem join_ch : ∀ bs : List Nat, (PySem.Txt.join ("" : Str) (bs.map ch)).cps.toList = bs := by
  intro bs
  have e : PySem.Txt.join ("" : Str) (bs.map ch) = Str.join ("" : Str) (bs.map ch) := PySem.StrLaws.glued_eq_join _ _
  rw [e]
  induction bs with
  | nil => rfl
  | cons b r ih =>
    cases r with
    | nil => rfl
    | cons c r =>
      show ((ch b ++ ("" : Str) ++ Str.join ("" : Str) ((c :: r).map ch)).cps).toList = _
      have ih := ih (PySem.StrLaws.glued_eq_join _ _)
      show ((ch b).cps ++ ("" : Str).cps ++ (Str.join ("" : Str) ((c :: r).map ch)).cps).toList = _
      rw [Array.toList_append, Array.toList_append, ih]
      rfl
theorem mul_ch {c : Nat} {n : Int} (h : 1 ≤ n) : (PySem.Txt.mul (ch c) n).cps.toList = List.replicate n.toNat c := by
  unfold PySem.Txt.mul
  rw [if_neg (by omega)]
  have f : ∀ (k : Nat) (acc : Array Nat), ((List.replicate k #[c]).foldl (· ++ ·) acc).toList = acc.toList ++ List.replicate k c := by
    intro k
    induction k with
    | zero => intro acc; simp
    | succ k ih => intro acc; rw [List.replicate_succ, List.foldl_cons, ih]; simp [List.replicate_succ]
  by_cases h1 : n = 1
  · subst h1; rfl
  · have e : (n == 1 || (ch c).length == 0) = false := by
      have : (n == 1) = false := by simpa using h1
      rw [this]; rfl
    rw [e, if_neg Bool.false_ne_true]
    have := f n.toNat #[]
    show (List.foldl (fun x1 x2 => x1 ++ x2) #[] (List.replicate n.toNat #[c])).toList = _
    simpa using this
structure NameOk (x : Str) : Prop where
  one : 1 ≤ x.length
  eight : x.length ≤ 8
  low : ∀ c ∈ x.cps.toList, 97 ≤ c ∧ c ≤ 122
  noS : x ≠ ("shuts" : Str)
  noB : x ≠ ("bars" : Str)
/-- runs of one letter -/
def nmA (f : Int) (k : Nat) : Str := ⟨(List.replicate (1 + k % 8) (97 + ((f + (k / 8 : Nat)) % 26).toNat)).toArray⟩
theorem nmA_ok (f : Int) (k : Nat) : NameOk (nmA f k) := by
  have h1 : ((f + (k / 8 : Nat)) % 26) < 26 := Int.emod_lt_of_pos _ (by decide)
  have h0 : 0 ≤ ((f + (k / 8 : Nat)) % 26) := Int.emod_nonneg _ (by decide)
  generalize hc : 97 + ((f + (k / 8 : Nat)) % 26).toNat = c at *
  have e : (nmA f k).cps.toList = List.replicate (1 + k % 8) c := by unfold nmA; rw [hc]
  have el : (nmA f k).length = 1 + k % 8 := by show (nmA f k).cps.size = _; rw [← Array.length_toList, e, List.length_replicate]
  refine ⟨by omega, by omega, fun d hd => ?_, fun z => ?_, fun z => ?_⟩
  · rw [e] at hd
    rw [List.eq_of_mem_replicate hd]; omega
  · have : ("shuts" : Str).cps.toList = List.replicate (1 + k % 8) c := by rw [← z, e]
    have a : ∀ d ∈ ("shuts" : Str).cps.toList, d = c := fun d hd => by rw [this] at hd; exact List.eq_of_mem_replicate hd
    have h1 := a 115 (by decide +kernel)
    have h2 := a 104 (by decide +kernel)
    omega
  · have : ("bars" : Str).cps.toList = List.replicate (1 + k % 8) c := by rw [← z, e]
    have a : ∀ d ∈ ("bars" : Str).cps.toList, d = c := fun d hd => by rw [this] at hd; exact List.eq_of_mem_replicate hd
    have h1 := a 98 (by decide +kernel)
    have h2 := a 97 (by decide +kernel)
    omega
theorem nodup_map_range {α : Type} (f : Nat → α) (m : Nat) (h : ∀ i j, i < m → j < m → f i = f j → i = j) : ((List.range m).map f).Nodup := by
  induction m with
  | zero => simp
  | succ m ih =>
    rw [List.range_succ, List.map_append, List.nodup_append]
    refine ⟨ih fun i j hi hj => h i j (by omega) (by omega), by simp, fun a ha b hb => ?_⟩
    obtain ⟨i, hi, rfl⟩ := List.mem_map.mp ha
    have hb : b = f m := by simpa using hb
    subst hb
    intro z
    have hi := List.mem_range.mp hi
    have := h i m (by omega) (by omega) z
    omega
theorem nmA_inj {f : Int} {i j : Nat} (hi : i < 26) (hj : j < 26) (h : nmA f i = nmA f j) : i = j := by
  have e : List.replicate (1 + i % 8) (97 + ((f + (i / 8 : Nat)) % 26).toNat) = List.replicate (1 + j % 8) (97 + ((f + (j / 8 : Nat)) % 26).toNat) := by
    have := congrArg (fun s : Str => s.cps.toList) h
    simpa [nmA] using this
  have l : 1 + i % 8 = 1 + j % 8 := by have := congrArg List.length e; simpa using this
  have c : 97 + ((f + (i / 8 : Nat)) % 26).toNat = 97 + ((f + (j / 8 : Nat)) % 26).toNat := by
    have hm : (97 + ((f + (i / 8 : Nat)) % 26).toNat) ∈ List.replicate (1 + j % 8) (97 + ((f + (j / 8 : Nat)) % 26).toNat) := by
      rw [← e]; exact List.mem_replicate.mpr ⟨by omega, rfl⟩
    exact List.eq_of_mem_replicate hm
  have a1 : 0 ≤ ((f + (i / 8 : Nat)) % 26) := Int.emod_nonneg _ (by decide)
  have a2 : 0 ≤ ((f + (j / 8 : Nat)) % 26) := Int.emod_nonneg _ (by decide)
  omega
/-- a letter put into a word -/
def nm0 (bs : List Nat) (th : Nat) (a : Int) (k : Nat) : List Nat := bs.set th (97 + ((a + k) % 26).toNat)
def fixS (x : Str) : Str := if x = ("shuts" : Str) ∨ x = ("bars" : Str) then x ++ ("x" : Str) else x
def nmB (bs : List Nat) (th : Nat) (a : Int) (k : Nat) : Str := fixS ⟨(nm0 bs th a k).toArray⟩
theorem fixS_inj {x y : Str} (hl : x.length = y.length) (h : fixS x = fixS y) : x = y := by
  unfold fixS at h
  have app : ∀ z : Str, (z ++ ("x" : Str)).length = z.length + 1 := fun z => by show (z.cps ++ ("x" : Str).cps).size = _; rw [Array.size_append]; rfl
  split at h <;> split at h
  · have e := congrArg (fun s : Str => s.cps.toList) h
    have e : (x.cps ++ ("x" : Str).cps).toList = (y.cps ++ ("x" : Str).cps).toList := e
    rw [Array.toList_append, Array.toList_append] at e
    exact str_ext (List.append_cancel_right e)
  · have := congrArg Str.length h; rw [app] at this; omega
  · have := congrArg Str.length h; rw [app] at this; omega
  · exact h
theorem nmB_inj {bs : List Nat} {th : Nat} {a : Int} (ht : th < bs.length) {i j : Nat} (hi : i < 26) (hj : j < 26) (h : nmB bs th a i = nmB bs th a j) : i = j := by
  have e := fixS_inj (by show (nm0 bs th a i).toArray.size = (nm0 bs th a j).toArray.size; simp [nm0]) h
  have e : nm0 bs th a i = nm0 bs th a j := by have := congrArg (fun s : Str => s.cps.toList) e; simpa using this
  have e : (bs.set th (97 + ((a + i) % 26).toNat))[th]? = (bs.set th (97 + ((a + j) % 26).toNat))[th]? := congrArg (fun l => l[th]?) e
  rw [List.getElem?_set_self ht, List.getElem?_set_self ht] at e
  have e := Option.some.inj e
  have a1 : 0 ≤ ((a + i) % 26) := Int.emod_nonneg _ (by decide)
  have a2 : 0 ≤ ((a + j) % 26) := Int.emod_nonneg _ (by decide)
  omega
theorem nmB_ok {bs : List Nat} {th : Nat} {a : Int} {k : Nat} (h1 : 1 ≤ bs.length) (h8 : bs.length ≤ 8) (hb : ∀ c ∈ bs, 97 ≤ c ∧ c ≤ 122) : NameOk (nmB bs th a k) := by
  have c1 : ((a + k) % 26) < 26 := Int.emod_lt_of_pos _ (by decide)
  have c0 : 0 ≤ ((a + k) % 26) := Int.emod_nonneg _ (by decide)
  have low : ∀ c ∈ nm0 bs th a k, 97 ≤ c ∧ c ≤ 122 := fun c hc => by
    rcases List.mem_or_eq_of_mem_set hc with h | h
    · exact hb c h
    · subst h; omega
  have len : (nm0 bs th a k).length = bs.length := by simp [nm0]
  unfold nmB
  generalize nm0 bs th a k = cs at *
  unfold fixS
  split
  · rename_i h
    rcases h with h | h
    · rw [h]
      exact ⟨by decide +kernel, by decide +kernel, by decide +kernel, by decide +kernel, by decide +kernel⟩
    · rw [h]
      exact ⟨by decide +kernel, by decide +kernel, by decide +kernel, by decide +kernel, by decide +kernel⟩
  · rename_i h
    refine ⟨?_, ?_, fun c hc => low c (by simpa using hc), fun z => h (.inl z), fun z => h (.inr z)⟩
    · show 1 ≤ cs.toArray.size
      rw [List.size_toArray]; omega
    · show cs.toArray.size ≤ 8
      rw [List.size_toArray]; omega
end My

namespace My
open PySem L2
variable {K : PySem.W.Frag} {vs : List V} {H : Hp} {Q : VK} {E : XK}

theorem sl64 {n : Nat} (h : n ≤ 100000) : n ≤ sizeLine := by rw [sizeLine_eq]; omega
theorem Same.tr {H H1 H2 : Hp} (a : Same H H1) (b : Same H1 H2) : Same H H2 := fun c o e => b c o (a c o e)
theorem Same.put {H H1 : Hp} {p : Addr} (s : Same H H1) (h : H p = none) (o : HO) : Same H (upd H1 p o) := fun b u e => by
  have nb : b ≠ p := fun z => by rw [z, h] at e; cases e
  rw [upd_ne nb]; exact s b u e
theorem tupK_lst {d : Addr} {xs ys : List V} (h : H d = some (.lst xs)) : TupK H (upd H d (.lst ys)) :=
  ⟨fun b zs e => by rw [upd_ne (fun z => by rw [z, h] at e; cases e)]; exact e, fun b o zs e => by rw [upd_ne (fun z => by rw [z, h] at e; cases e)]; exact e⟩
theorem ne_free {H : Hp} {a b : Addr} {o : HO} (h : H a = some o) (g : H b = none) : a ≠ b := fun e => by rw [e, g] at h; cases h
theorem flat_strV (xs : List Str) : (strV xs).all flatV = true := by unfold strV; rw [List.all_map]; exact List.all_eq_true.mpr fun _ _ => rfl
theorem inV_strV (x : Str) : ∀ xs : List Str, inV (.str x) (strV xs) = decide (x ∈ xs)
  | [] => by simp [strV, inV]
  | y :: ys => by
    have ih := inV_strV x ys
    unfold inV at ih ⊢
    show (eqV (.str y) (.str x) || (strV ys).any fun z => eqV z (.str x)) = _
    rw [ih]
    by_cases e : x = y
    · subst e; simp [eqV]
    · have e' : ¬ y = x := fun z => e z.symm
      simp [eqV, e, e']
def intV (ns : List Int) : List V := ns.map V.int
theorem intV_len (ns : List Int) : (intV ns).length = ns.length := List.length_map _
theorem intV_app (ns : List Int) (x : Int) : intV ns ++ [V.int x] = intV (ns ++ [x]) := by simp [intV]
theorem app_len (a b : Str) : (a ++ b).length = a.length + b.length := PySem.Str.length_append a b
theorem sub_len {α : Type} [BEq α] [LawfulBEq α] : ∀ {l m : List α}, l.Nodup → (∀ x ∈ l, x ∈ m) → l.length ≤ m.length
  | [], _, _, _ => Nat.zero_le _
  | x :: l, m, hn, hs => by
    rw [List.nodup_cons] at hn
    have hm := hs x (by simp)
    have h2 : ∀ y ∈ l, y ∈ m.erase x := fun y hy => (List.mem_erase_of_ne (fun e => hn.1 (by rw [← e]; exact hy))).mpr (hs y (by simp [hy]))
    have := sub_len hn.2 h2
    have e := List.length_erase_of_mem hm
    have hp := List.length_pos_of_mem hm
    rw [List.length_cons]; omega
def sp__law_mixed (K : PySem.W.Frag) : Sp := fun vs H Q _ => ∃ c k : Int, vs = [.int c, .int k] ∧ 0 ≤ k ∧ k ≤ 1000 ∧ ∀ n : Int, 0 ≤ n → Q (.int n) H
theorem len__law_mixed (K : PySem.W.Frag) : ∀ vs H Q E, sp__law_mixed K vs H Q E → vs.length = ["_law_cell", "_law_k"].length := by rintro vs H Q E ⟨c, k, rfl, _⟩; rfl
def R__law_mixed (K : PySem.W.Frag) : TS :=
 (tSeq (tAsg (tOp (rI CDiv fun i j => .int (i / j)) (tVar 0) (tC (.int 2))) (gName 2))
 (tSeq (tIfS (tTest (tOp (rEqA K) (tOp (rI (fun _ j => 0 < j) fun i j => .int (i % j)) (tVar 0) (tC (.int 2))) (tC (.int 0))))
 (tRet (tOp (rI (fun _ j => 0 < j) fun i j => .int (i % j)) (tOp (rI (fun _ j => 0 ≤ j) fun i j => .int (i / 2 ^ j.toNat)) (tVar 2) (tOp rMulA (tC (.int 64)) (tVar 1))) (tOp (rI CPow fun i j => .int (i * 2 ^ j.toNat)) (tC (.int 1)) (tC (.int 64))))) tNext)
 (tSeq (tAsg (tOp (rAddA K) (tOp (rI (fun _ j => 0 < j) fun i j => .int (i % j)) (tVar 2) (tC (.int 2147483647))) (tOp rMulA (tC (.int 48271)) (tOp (rAddA K) (tVar 1) (tC (.int 1))))) (gName 3))
 (tSeq (tAsg (tOp (rI (fun _ j => 0 < j) fun i j => .int (i % j)) (tOp (rAddA K) (tOp rMulA (tVar 3) (tVar 3)) (tOp rMulA (tC (.int 69621)) (tVar 1))) (tC (.int 2147483647))) (gName 3))
 (tRet (tOp (rI (fun _ j => 0 < j) fun i j => .int (i % j)) (tOp (rAddA K) (tOp (rAddA K) (tOp rMulA (tVar 3) (tVar 3)) (tOp rMulA (tC (.int 16807)) (tVar 1))) (tC (.int 1))) (tC (.int 2147483629))))))))
theorem rd__law_mixed (h : sp__law_mixed K vs H Q E) : R__law_mixed K { nx := fun _ H' => Q .non H', rt := Q } (start ["_law_cell", "_law_k", "_law_half", "_law_number"] vs) H := by
  obtain ⟨c, k, rfl, hk0, hk1, q⟩ := h
  show R__law_mixed K _ [some (.int c), some (.int k), none, none] H
  unfold R__law_mixed
  walk_at "step"
  by_cases hc : c % 2 = 0
  · rw [decide_eq_true hc]; refine iteT ?_
    walk_at "step"
    refine v_mulI (.inl ⟨by decide, by decide⟩) ?_
    refine v_shr (by omega) ?_
    walk_at "step"
    refine v_shl ⟨by decide, by decide, by decide⟩ ?_
    refine v_mod (by decide) ?_
    exact q _ (Int.emod_nonneg _ (by decide))
  · rw [decide_eq_false hc]; refine iteF ?_
    walk_at "step"
    refine v_mulI (.inl ⟨by decide, by decide⟩) ?_
    walk_at "step"
    have a0 := Int.emod_nonneg (c / 2) (show (2147483647 : Int) ≠ 0 by decide)
    have a1 := Int.emod_lt_of_pos (c / 2) (show (0 : Int) < 2147483647 by decide)
    generalize hm : c / 2 % 2147483647 + 48271 * (k + 1) = m at *
    refine v_mulI (.inl ⟨by omega, by omega⟩) ?_
    walk_at "step"
    refine v_mulI (.inl ⟨by decide, by decide⟩) ?_
    walk_at "step"
    have b0 := Int.emod_nonneg (m * m + 69621 * k) (show (2147483647 : Int) ≠ 0 by decide)
    have b1 := Int.emod_lt_of_pos (m * m + 69621 * k) (show (0 : Int) < 2147483647 by decide)
    generalize hm2 : (m * m + 69621 * k) % 2147483647 = m2 at *
    refine v_mulI (.inl ⟨by omega, by omega⟩) ?_
    walk_at "step"
    refine v_mulI (.inl ⟨by decide, by decide⟩) ?_
    walk_at "step"
    exact q _ (Int.emod_nonneg _ (by decide))


/-- signs by their numbers -/
def Sg (ns : List Int) : Prop := (∀ x ∈ ns, 0 ≤ x ∧ x < 26) ∧ 1 ≤ ns.length ∧ ns.length ≤ 8
def sp__law_letters (K : PySem.W.Frag) : Sp := fun vs H Q _ => ∃ n : Int, vs = [.int n] ∧ ∀ (p : Addr) (ns : List Int) (H' : Hp), Same H H' → H p = none → H' p = some (.lst (intV ns)) → Sg ns → Q (.ref p) H'
theorem len__law_letters (K : PySem.W.Frag) : ∀ vs H Q E, sp__law_letters K vs H Q E → vs.length = ["_law_number"].length := by rintro vs H Q E ⟨n, rfl, _⟩; rfl
def R__law_letters (K : PySem.W.Frag) : TS :=
 (tSeq (tAsg (tLst tNil) (gName 1))
 (tSeq (tAsg (tOp (rAddA K) (tC (.int 1)) (tOp (rI (fun _ j => 0 < j) fun i j => .int (i % j)) (tVar 0) (tC (.int 8)))) (gName 2))
 (tSeq (tAsg (tOp (rI CDiv fun i j => .int (i / j)) (tVar 0) (tC (.int 8))) (gName 0))
 (tSeq (tFor (iRng1 (tCons (tVar 2) tNil)) (gName 3)
 (tSeq (tDrop (tBM K "list" rAppend (tVar 1) (tCons (tOp (rI (fun _ j => 0 < j) fun i j => .int (i % j)) (tVar 0) (tC (.int 26))) tNil)))
 (tAsg (tOp (rI CDiv fun i j => .int (i / j)) (tVar 0) (tC (.int 26))) (gName 0))))
 (tRet (tVar 1))))))
theorem rd__law_letters (h : sp__law_letters K vs H Q E) : R__law_letters K { nx := fun _ H' => Q .non H', rt := Q } (start ["_law_number", "_law_signs", "_law_width", "_law_j"] vs) H := by
  obtain ⟨n, rfl, q⟩ := h
  show R__law_letters K _ [some (.int n), none, none, none] H
  unfold R__law_letters
  walk_at "step"
  refine ⟨sl64 (by simp), fun d hd => ?_⟩
  walk_at "step"
  have a0 := Int.emod_nonneg n (show (8 : Int) ≠ 0 by decide)
  have a1 := Int.emod_lt_of_pos n (show (0 : Int) < 8 by decide)
  generalize hm : (1 : Int) + n % 8 = m at *
  refine rng1_for (by omega) (by omega) (fun i σ H' => ∃ (y : Int) (a : Option V) (ns : List Int), σ = [some (.int y), some (.ref d), some (.int m), a] ∧ Same H H' ∧ H' d = some (.lst (intV ns)) ∧ ns.length = i ∧ ∀ x ∈ ns, 0 ≤ x ∧ x < 26) ⟨_, none, [], rfl, Same.new hd _, upd_same, rfl, by simp⟩ ?_ ?_
  · rintro i σ H' hi ⟨y, a, ns, rfl, s1, h1, hl, hns⟩
    walk_at "step"
    refine ⟨.inl ⟨rfl, _, SqL.of h1⟩, ?_⟩
    walk_at "step"
    refine v_append h1 (by rw [intV_len, sizeLine_eq]; omega) ?_
    walk_at "step"
    refine ⟨_, _, ns ++ [y % 26], rfl, Same.put s1 hd _, by rw [← intV_app]; exact upd_same, by simp [hl], fun x hx => ?_⟩
    rcases List.mem_append.mp hx with h | h
    · exact hns x h
    · rw [List.mem_singleton.mp h]; exact ⟨Int.emod_nonneg _ (by decide), Int.emod_lt_of_pos _ (by decide)⟩
  · rintro σ H' ⟨y, a, ns, rfl, s1, h1, hl, hns⟩
    walk_at "step"
    exact q d ns H' s1 hd h1 ⟨hns, by omega, by omega⟩

def namesT2 (K : PySem.W.Frag) : TS :=
 (tSeq (tAsg (tBM K "str" (rJoin K) (tC (.str ("" : Str))) (tCons (tComp [some 1, none] (iAny K (tVar 4)) (gName 1) tTT (tOp (rIxA K) (tVar 0) (tVar 1))) tNil)) (gName 5))
 (tSeq (tAsg (tComp [some 2, none] (iStr (tVar 1)) (gName 1) (tTest (tOp (rInB K true) (tOp rMulA (tVar 1) (tC (.int 8))) (tVar 0))) (tOp rMulA (tVar 1) (tC (.int 8)))) (gName 6))
 (tDrop (tBM K "list" rAppend (tVar 2) (tCons (tOp (rIxA K) (tLst (tCons (tVar 5) (tCons (tOp (rIxA K) (tVar 6) (tC (.int 0))) tNil))) (tCB rIntA (tCons (tOp (rInB K false) (tVar 5) (tOp (rAddA K) (tVar 2) (tLst (tCons (tC (.str ("bars" : Str))) (tCons (tC (.str ("shuts" : Str))) tNil))))) tNil))) tNil)))))
def namesT1 (K : PySem.W.Frag) : TS :=
 (tSeq (tIfS (tTest (tOp (rEqA K) (tOp (rI (fun _ j => 0 < j) fun i j => .int (i % j)) (tVar 0) (tC (.int 4))) (tC (.int 3))))
 (tSeq (tAsg (tSl (rSlA K) (tCall (sp__law_letters K) [] E0 (tCons (tOp (rAddA K) (tC (.int 7)) (tOp rMulA (tC (.int 8)) (tCall (sp__law_mixed K) [] E0 (tCons (tVar 0) (tCons (tC (.int 2)) tNil))))) tNil)) tNoPart (tPart (tOp (rAddA K) (tOp (rI (fun _ j => 0 < j) fun i j => .int (i % j)) (tVar 3) (tC (.int 8))) (tC (.int 1))))) (gName 4))
 (tAsg (tOp (rI (fun _ j => 0 < j) fun i j => .int (i % j)) (tOp (rAddA K) (tOp (rIxA K) (tVar 4) (tC (.int 0))) (tCB rIntA (tCons (tOp rGtA (tVar 3) (tC (.int 7))) tNil))) (tC (.int 26))) (gSub (tVar 4) (tC (.int 0)) rSetA))) tNext)
 (namesT2 K))

/-- the names so far -/
structure Nms (names : List Str) : Prop where
  nd : names.Nodup
  ne : ∀ x ∈ names, x ≠ ("" : Str)
theorem mul8_ne (c : Nat) : PySem.Txt.mul (ch c) 8 ≠ ("" : Str) := fun e => by
  have h1 : (PySem.Txt.mul (ch c) 8).cps.toList = List.replicate 8 c := mul_ch (by decide)
  rw [e] at h1
  cases h1
theorem mul8_inj {c d : Nat} (e : PySem.Txt.mul (ch c) 8 = PySem.Txt.mul (ch d) 8) : c = d := by
  have h1 : (PySem.Txt.mul (ch c) 8).cps.toList = List.replicate 8 c := mul_ch (by decide)
  have h2 : (PySem.Txt.mul (ch d) 8).cps.toList = List.replicate 8 d := mul_ch (by decide)
  rw [e, h2] at h1
  injection h1 with h1
  exact h1.symm
def spares (names : List Str) (cs : List Nat) : List Str := (cs.map fun c => PySem.Txt.mul (ch c) 8).filter fun x => !decide (x ∈ names)
theorem lt_nodup : Lt.cps.toList.Nodup := by decide +kernel
theorem nodup_map_inj {α β : Type} {f : α → β} (hf : ∀ x y, f x = f y → x = y) : ∀ {l : List α}, l.Nodup → (l.map f).Nodup
  | [], _ => by simp
  | x :: l, h => by
    rw [List.nodup_cons] at h
    rw [List.map_cons, List.nodup_cons]
    refine ⟨fun hm => ?_, nodup_map_inj hf h.2⟩
    obtain ⟨y, hy, e⟩ := List.mem_map.mp hm
    exact h.1 (by rw [← hf _ _ e]; exact hy)
theorem spares_ne {names : List Str} (h : names.length < 26) : spares names Lt.cps.toList ≠ [] := fun e => by
  unfold spares at e
  rw [List.filter_eq_nil_iff] at e
  have hs : ∀ x ∈ Lt.cps.toList.map (fun c => PySem.Txt.mul (ch c) 8), x ∈ names := fun x hx => by
    have := e x hx
    simpa using this
  have := sub_len (nodup_map_inj (fun _ _ => mul8_inj) lt_nodup) hs
  rw [List.length_map] at this
  have l26 : Lt.cps.toList.length = 26 := by decide +kernel
  omega
/-- the text of some signs -/
def wrd (ns : List Int) : Str := PySem.Txt.join ("" : Str) (ns.map fun x => ch (97 + x.toNat))
theorem wrd_ne {ns : List Int} (h : 1 ≤ ns.length) : wrd ns ≠ ("" : Str) := fun e => by
  have e2 : (wrd ns).cps.toList = ns.map fun x => 97 + x.toNat := by
    unfold wrd
    have := join_ch (ns.map fun x => 97 + x.toNat)
    rw [List.map_map] at this
    exact this
  rw [e] at e2
  cases ns with
  | nil => simp at h
  | cons x l => cases e2
theorem mul_len8 (c : Nat) : (PySem.Txt.mul (ch c) 8).length = 8 := by
  show (PySem.Txt.mul (ch c) 8).cps.size = 8
  rw [← Array.length_toList, mul_ch (by decide)]; rfl
theorem wrd_len {ns : List Int} : (wrd ns).length = ns.length := by
  show (wrd ns).cps.size = _
  rw [← Array.length_toList]
  unfold wrd
  have := join_ch (ns.map fun x => 97 + x.toNat)
  rw [List.map_map] at this
  rw [show (PySem.Txt.join ("" : Str) (ns.map fun x => ch (97 + x.toNat))).cps.toList = _ from this, List.length_map]
theorem names_tail2 {D : Ends} {c : Int} {d p : Addr} {k : Nat} {names : List Str} {ns : List Int} {H0 : Hp} {a5 a6 : Option V} (s0 : Same H0 H) (hd0 : H0 d = none) (hd : H d = some (.lst (strV names))) (hp : H p = some (.lst (intV ns))) (hS : Sg ns) (hN : Nms names) (hl : names.length < 12)
    (q : ∀ (x : Str) (b1 b2 : Option V) (H' : Hp), Same H0 H' → H' d = some (.lst (strV (names ++ [x]))) → Nms (names ++ [x]) → D.nx [some (.int c), some (.str Lt), some (.ref d), some (.int k), some (.ref p), b1, b2] H') :
    namesT2 K D [some (.int c), some (.str Lt), some (.ref d), some (.int k), some (.ref p), a5, a6] H := by
  unfold namesT2
  walk_at "step"
  refine ⟨rfl, ?_⟩
  walk_at "step"
  refine any_compL (xs := intV ns) (SqL.of hp) (fun i ys H' => H' = H ∧ ys = strV ((ns.take i).map fun x => ch (97 + x.toNat))) ⟨rfl, rfl⟩ ?_ ?_ ?_ ?_
  · rintro i ys H' hi ⟨rfl, rfl⟩
    rw [strV_len, List.length_map, List.length_take]
    have := hS.2.2
    exact sl64 (by omega)
  · rintro i ys H' hi ⟨rfl, rfl⟩
    exact SqL.of hp
  · rintro i x ys H' hx ⟨rfl, rfl⟩
    unfold intV at hx
    rw [List.getElem?_map] at hx
    obtain ⟨y, hy, rfl⟩ := Option.map_eq_some_iff.mp hx
    obtain ⟨y0, y1⟩ := hS.1 y (List.mem_of_getElem? hy)
    walk_at "step"
    refine v_ixS (sl64 (by rw [lt_len]; decide)) (lt_at y0 y1) ?_
    refine ⟨rfl, ?_⟩
    rw [List.take_add_one, hy]
    simp [strV, ch]
  · rintro ys H' ⟨rfl, rfl⟩ l hl'
    rw [intV_len, List.take_length]
    walk_at "step"
    refine ⟨"", l, ns.map fun x => ch (97 + x.toNat), rfl, rfl, .inl (SqL.of upd_same), ?_, ?_⟩
    · rw [List.map_map, show ("" : Str).length = 0 from rfl, Nat.mul_zero, Nat.add_zero]
      have : (ns.map ((fun x => x.length) ∘ fun x => ch (97 + x.toNat))).sum = ns.length := by
        clear hp hS hl' q hd
        induction ns with
        | nil => rfl
        | cons x l ih => rw [List.map_cons, List.sum_cons, ih, List.length_cons]; show 1 + _ = _; omega
      rw [this]
      have := hS.2.2
      omega
    have e1 : PySem.Txt.join ("" : Str) (ns.map fun x => ch (97 + x.toNat)) = wrd ns := rfl
    rw [e1]
    walk_at "step"
    have hd1 : (upd H' l (.lst (strV (ns.map fun x => ch (97 + x.toNat))))) d = some (.lst (strV names)) := by rw [upd_ne (ne_free hd hl')]; exact hd
    have s1 : Same H0 (upd H' l (.lst (strV (ns.map fun x => ch (97 + x.toNat))))) := Same.tr s0 (Same.new hl' _)
    generalize upd H' l (.lst (strV (ns.map fun x => ch (97 + x.toNat)))) = H1 at *
    refine str_comp (z := Lt) (fun i ys H' => H' = H1 ∧ ys = strV (spares names (Lt.cps.toList.take i))) ⟨rfl, rfl⟩ ?_ ?_ ?_
    · rintro i ys H' hi ⟨rfl, rfl⟩
      rw [strV_len]
      have h1 : (spares names (Lt.cps.toList.take i)).length ≤ 26 := by
        unfold spares
        refine Nat.le_trans (List.length_filter_le _ _) ?_
        rw [List.length_map, List.length_take]
        have l26 : Lt.cps.toList.length = 26 := by decide +kernel
        omega
      exact sl64 (by omega)
    · rintro i e ys H' he ⟨rfl, rfl⟩
      have hsp : spares names (Lt.cps.toList.take (i + 1)) = spares names (Lt.cps.toList.take i) ++ (if PySem.Txt.mul (ch e) 8 ∈ names then [] else [PySem.Txt.mul (ch e) 8]) := by
        unfold spares
        rw [List.take_add_one, he, List.map_append, List.filter_append]
        congr 1
        by_cases hm : PySem.Txt.mul (ch e) 8 ∈ names <;> simp [hm]
      walk_at "step"
      refine v_mulS (by decide) (by decide) (show (1 : Nat) ≤ 1000 by decide) ?_
      walk_at "step"
      refine .inl (v_notin (.inl (SqL.of hd1)) rfl (flat_strV _) ?_)
      rw [inV_strV]
      walk_at "step"
      by_cases hm : PySem.Txt.mul (ch e) 8 ∈ names
      · rw [show (⟨#[e]⟩ : Str) = ch e from rfl, decide_eq_true hm]
        refine iteF ?_
        refine ⟨rfl, ?_⟩
        rw [hsp, if_pos hm, List.append_nil]
      · rw [show (⟨#[e]⟩ : Str) = ch e from rfl, decide_eq_false hm]
        refine iteT ?_
        walk_at "step"
        refine v_mulS (by decide) (by decide) (show (1 : Nat) ≤ 1000 by decide) ?_
        refine ⟨rfl, ?_⟩
        rw [hsp, if_neg hm]; simp [strV]
    rintro ys H' ⟨rfl, rfl⟩ t ht
    have hls : Lt.cps.toList.take Lt.cps.size = Lt.cps.toList := List.take_of_length_le (by rw [Array.length_toList]; exact Nat.le_refl _)
    rw [hls]
    have hne := spares_ne (names := names) (by omega)
    obtain ⟨x0, xr, hx0⟩ : ∃ x r, spares names Lt.cps.toList = x :: r := by
      cases h : spares names Lt.cps.toList with
      | nil => exact absurd h hne
      | cons x r => exact ⟨x, r, rfl⟩
    have hx0m : x0 ∈ spares names Lt.cps.toList := by rw [hx0]; simp
    unfold spares at hx0m
    rw [List.mem_filter] at hx0m
    have hx0n : x0 ∉ names := by simpa using hx0m.2
    have hx0e : x0 ≠ ("" : Str) := by
      obtain ⟨e, _, he⟩ := List.mem_map.mp hx0m.1
      rw [← he]; exact mul8_ne e
    rw [hx0]
    walk_at "step"
    have hd2 : (upd H' t (.lst (strV (x0 :: xr)))) d = some (.lst (strV names)) := by rw [upd_ne (ne_free hd1 ht)]; exact hd1
    refine ⟨.inl ⟨rfl, _, SqL.of hd2⟩, ?_⟩
    walk_at "step"
    refine v_ixL (SqL.of upd_same) (v := .str x0) (atI_nat (j := 0) rfl) ?_
    walk_at "step"
    refine ⟨sl64 (by simp), fun t2 ht2 => ?_⟩
    walk_at "step"
    refine ⟨sl64 (by simp), fun t3 ht3 => ?_⟩
    walk_at "step"
    have n32 : t3 ≠ t2 := fun e => by rw [e, upd_same] at ht3; cases ht3
    have hd3 : (upd (upd (upd H' t (.lst (strV (x0 :: xr)))) t2 (.lst [.str (wrd ns), .str x0])) t3 (.lst [.str ("bars" : Str), .str ("shuts" : Str)])) d = some (.lst (strV names)) := by
      rw [upd_ne (ne_free (by rw [upd_ne (ne_free hd2 ht2)]; exact hd2) ht3), upd_ne (ne_free hd2 ht2)]; exact hd2
    refine v_cat hd3 upd_same (by rw [strV_len]; exact sl64 (by simp; omega)) fun t4 ht4 => ?_
    have ex : strV names ++ [V.str ("bars" : Str), V.str ("shuts" : Str)] = strV (names ++ [("bars" : Str), ("shuts" : Str)]) := by simp [strV]
    refine .inl (v_in (.inl (SqL.of upd_same)) rfl (by rw [ex]; exact flat_strV _) ?_)
    rw [ex, inV_strV]
    walk_at "step"
    have n42 : t2 ≠ t4 := fun e => by rw [← e, upd_ne n32.symm, upd_same] at ht4; cases ht4
    have hd4 : (upd (upd (upd (upd H' t (.lst (strV (x0 :: xr)))) t2 (.lst [.str (wrd ns), .str x0])) t3 (.lst [.str ("bars" : Str), .str ("shuts" : Str)])) t4 (.lst (strV (names ++ [("bars" : Str), ("shuts" : Str)])))) d = some (.lst (strV names)) := by
      rw [upd_ne (ne_free hd3 ht4)]; exact hd3
    have hq2 : (upd (upd (upd (upd H' t (.lst (strV (x0 :: xr)))) t2 (.lst [.str (wrd ns), .str x0])) t3 (.lst [.str ("bars" : Str), .str ("shuts" : Str)])) t4 (.lst (strV (names ++ [("bars" : Str), ("shuts" : Str)])))) t2 = some (.lst [.str (wrd ns), .str x0]) := by
      rw [upd_ne n42, upd_ne n32.symm]; exact upd_same
    have s4 : Same H0 (upd (upd (upd (upd H' t (.lst (strV (x0 :: xr)))) t2 (.lst [.str (wrd ns), .str x0])) t3 (.lst [.str ("bars" : Str), .str ("shuts" : Str)])) t4 (.lst (strV (names ++ [("bars" : Str), ("shuts" : Str)])))) :=
      Same.tr s1 (Same.tr (Same.new ht _) (Same.tr (Same.new ht2 _) (Same.tr (Same.new ht3 _) (Same.new ht4 _))))
    generalize (upd (upd (upd (upd H' t (.lst (strV (x0 :: xr)))) t2 (.lst [.str (wrd ns), .str x0])) t3 (.lst [.str ("bars" : Str), .str ("shuts" : Str)])) t4 (.lst (strV (names ++ [("bars" : Str), ("shuts" : Str)])))) = H4 at *
    have app : ∀ x : Str, x ∉ names → x ≠ ("" : Str) → Nms (names ++ [x]) := fun x hx hxe => ⟨by
      rw [List.nodup_append]; refine ⟨hN.nd, by simp, ?_⟩
      intro a ha b hb e
      rw [List.mem_singleton.mp hb] at e
      exact hx (e ▸ ha), fun y hy => by
      rcases List.mem_append.mp hy with h | h
      · exact hN.ne y h
      · rw [List.mem_singleton.mp h]; exact hxe⟩
    have fin : ∀ x : Str, x ∉ names → x ≠ ("" : Str) → rAppend (.ref d) [.str x] H4 (fun _ H1 => D.nx [some (.int c), some (.str Lt), some (.ref d), some (.int k), some (.ref p), some (.str (wrd ns)), some (.ref t)] H1) := fun x hx hxe => by
      refine v_append hd4 (by rw [strV_len, sizeLine_eq]; omega) ?_
      exact q x _ _ _ (Same.put s4 hd0 _) (by rw [show strV (names ++ [x]) = strV names ++ [V.str x] by simp [strV]]; exact upd_same) (app x hx hxe)
    by_cases hm : wrd ns ∈ names ++ [("bars" : Str), ("shuts" : Str)]
    · rw [decide_eq_true hm]
      refine .inr ⟨true, rfl, ?_⟩
      refine v_ixL (SqL.of hq2) (v := .str x0) (atI_nat (j := 1) rfl) ?_
      walk_at "step"
      exact fin x0 hx0n hx0e
    · rw [decide_eq_false hm]
      refine .inr ⟨false, rfl, ?_⟩
      refine v_ixL (SqL.of hq2) (v := .str (wrd ns)) (atI_nat (j := 0) rfl) ?_
      walk_at "step"
      exact fin _ (fun h => hm (List.mem_append_left _ h)) (wrd_ne hS.2.1)

theorem Sg.set {ns : List Int} (h : Sg ns) (i : Nat) {x : Int} (h0 : 0 ≤ x) (h1 : x < 26) : Sg (ns.set i x) := by
  refine ⟨fun y hy => ?_, by rw [List.length_set]; exact h.2.1, by rw [List.length_set]; exact h.2.2⟩
  rcases List.mem_or_eq_of_mem_set hy with h' | h'
  · exact h.1 y h'
  · rw [h']; exact ⟨h0, h1⟩
theorem intV_set (ns : List Int) (i : Nat) (x : Int) : (intV ns).set i (.int x) = intV (ns.set i x) := by unfold intV; rw [List.map_set]
theorem intV_at {ns : List Int} {i : Nat} (h : i < ns.length) : (intV ns)[i]? = some (.int ns[i]) := by unfold intV; rw [List.getElem?_map, List.getElem?_eq_getElem h]; rfl
theorem ixN_last {n : Nat} (h : 1 ≤ n) : ixN n (-1) = some (n - 1) := by
  unfold ixN
  rw [if_neg (by decide), if_pos (by omega)]
  congr 1
  omega
theorem atI_end {xs : List V} {v : V} (h : 1 ≤ xs.length) (e : xs[xs.length - 1]? = some v) : atI xs (-1) = some v := by
  unfold atI
  rw [ixN_last h]; exact e
theorem ixN_0 {n : Nat} (h : 1 ≤ n) : ixN n 0 = some 0 := by
  unfold ixN
  rw [if_pos (by decide), if_pos (by omega)]; rfl
theorem names_tail1 {D : Ends} {c : Int} {d p : Addr} {k : Nat} {names : List Str} {ns : List Int} {H0 : Hp} {a5 a6 : Option V} (s0 : Same H0 H) (hd0 : H0 d = none) (hd : H d = some (.lst (strV names))) (hp : H p = some (.lst (intV ns))) (hS : Sg ns) (hN : Nms names) (hl : names.length < 12)
    (q : ∀ (x : Str) (b0 b1 b2 : Option V) (H' : Hp), Same H0 H' → H' d = some (.lst (strV (names ++ [x]))) → Nms (names ++ [x]) → D.nx [some (.int c), some (.str Lt), some (.ref d), some (.int k), b0, b1, b2] H') :
    namesT1 K D [some (.int c), some (.str Lt), some (.ref d), some (.int k), some (.ref p), a5, a6] H := by
  unfold namesT1
  walk_at "step"
  by_cases h4 : c % 4 = 3
  · rw [decide_eq_true h4]; refine iteT ?_
    walk_at "step"
    refine ⟨c, 2, rfl, by decide, by decide, fun m hm => ?_⟩
    refine v_mulI (.inl ⟨by decide, by decide⟩) ?_
    walk_at "step"
    refine ⟨_, rfl, fun p1 ns1 H1 s1 hp1 h1 hS1 => ?_⟩
    walk_at "step"
    refine .inr (.inr ⟨p1, _, rfl, SqL.of h1, fun p2 hp2 => ?_⟩)
    obtain ⟨u, hu⟩ : ∃ u : Nat, (k : Int) % 8 + 1 = (u : Int) ∧ 1 ≤ u := ⟨((k : Int) % 8 + 1).toNat, by omega, by omega⟩
    have ec : cutV (intV ns1) none (some ((k : Int) % 8 + 1)) = intV (ns1.take u) := by
      unfold cutV
      rw [hu.1, HT.sIx_nat]
      show ((intV ns1).drop 0).take (min u (intV ns1).length - 0) = _
      rw [List.drop_zero, Nat.sub_zero]
      unfold intV
      rw [List.map_take, List.length_map]
      by_cases hh : u ≤ ns1.length
      · rw [Nat.min_eq_left hh]
      · rw [Nat.min_eq_right (by omega), List.take_of_length_le (by rw [List.length_map]; exact Nat.le_refl _), List.take_of_length_le (by rw [List.length_map]; omega)]
    rw [ec]
    have hS2 : Sg (ns1.take u) := ⟨fun x hx => hS1.1 x (List.mem_of_mem_take hx), by rw [List.length_take]; have := hS1.2.1; omega, by rw [List.length_take]; have := hS1.2.2; omega⟩
    generalize ns1.take u = ns2 at *
    have hd2 : (upd H1 p2 (.lst (intV ns2))) d = some (.lst (strV names)) := by rw [upd_ne (ne_free (s1 _ _ hd) hp2)]; exact s1 _ _ hd
    have npd : p2 ≠ d := (ne_free (s1 _ _ hd) hp2).symm
    walk_at "step"
    refine v_ixL (SqL.of upd_same) (v := .int (ns2[0]'hS2.2.1)) (atI_nat (j := 0) (intV_at hS2.2.1)) ?_
    walk_at "step"
    refine .inr ⟨_, rfl, ?_⟩
    walk_at "step"
    refine .inl (v_setL upd_same (j := 0) (ixN_0 (by rw [intV_len]; exact hS2.2.1)) ?_)
    rw [intV_set]
    refine names_tail2 (H0 := H0) ?_ hd0 ?_ upd_same (hS2.set 0 (Int.emod_nonneg _ (by decide)) (Int.emod_lt_of_pos _ (by decide))) hN hl fun x b1 b2 H' => q x _ b1 b2 H'
    · exact Same.put (Same.tr s0 (Same.tr s1 (Same.new hp2 _))) (Same.free s0 (Same.free s1 hp2)) _
    · rw [upd_ne npd.symm]; exact hd2
  · rw [decide_eq_false h4]; refine iteF ?_
    walk_at "step"
    exact names_tail2 s0 hd0 hd hp hS hN hl fun x b1 b2 H' => q x _ b1 b2 H'
def sp__law_names (K : PySem.W.Frag) : Sp := fun vs H Q _ => ∃ c : Int, vs = [.int c] ∧ ∀ (d : Addr) (names : List Str) (H' : Hp), Same H H' → H d = none → H' d = some (.lst (strV names)) → names.length = 12 → Nms names → Q (.ref d) H'
theorem len__law_names (K : PySem.W.Frag) : ∀ vs H Q E, sp__law_names K vs H Q E → vs.length = ["_law_cell"].length := by rintro vs H Q E ⟨c, rfl, _⟩; rfl
def R__law_names (K : PySem.W.Frag) : TS :=
 (tSeq (tAsg (tC (.str ("abcdefghijklmnopqrstuvwxyz" : Str))) (gName 1))
 (tSeq (tAsg (tLst tNil) (gName 2))
 (tSeq (tFor (iRng1 (tCons (tC (.int 12)) tNil)) (gName 3)
 (tSeq (tAsg (tCall (sp__law_letters K) [] E0 (tCons (tOp (rI (fun _ j => 0 < j) fun i j => .int (i % j)) (tOp (rI (fun _ j => 0 ≤ j) fun i j => .int (i / 2 ^ j.toNat)) (tOp (rI CDiv fun i j => .int (i / j)) (tVar 0) (tC (.int 2))) (tOp rMulA (tC (.int 41)) (tVar 3))) (tOp (rI CPow fun i j => .int (i * 2 ^ j.toNat)) (tC (.int 1)) (tC (.int 41)))) tNil)) (gName 4))
 (tSeq (tIfS (tTest (tOp (rEqA K) (tOp (rI (fun _ j => 0 < j) fun i j => .int (i % j)) (tVar 0) (tC (.int 2))) (tC (.int 1))))
 (tSeq (tAsg (tCall (sp__law_letters K) [] E0 (tCons (tCall (sp__law_mixed K) [] E0 (tCons (tVar 0) (tCons (tC (.int 1)) tNil))) tNil)) (gName 4))
 (tAsg (tOp (rI (fun _ j => 0 < j) fun i j => .int (i % j)) (tOp (rAddA K) (tOp (rIxA K) (tVar 4) (tUn (rU fun i => .int (-i)) (tC (.int 1)))) (tVar 3)) (tC (.int 26))) (gSub (tVar 4) (tUn (rU fun i => .int (-i)) (tC (.int 1))) rSetA))) tNext)
 (namesT1 K))))
 (tRet (tVar 2)))))
theorem rd__law_names (h : sp__law_names K vs H Q E) : R__law_names K { nx := fun _ H' => Q .non H', rt := Q } (start ["_law_cell", "_law_letters_here", "_law_names_here", "_law_k", "_law_signs", "_law_name", "_law_spare"] vs) H := by
  obtain ⟨c, rfl, q⟩ := h
  show R__law_names K _ [some (.int c), none, none, none, none, none, none] H
  unfold R__law_names
  walk_at "step"
  refine ⟨sl64 (by simp), fun d hd => ?_⟩
  walk_at "step"
  refine rng1_for (by decide) (by decide) (fun i σ H' => ∃ (a3 a4 a5 a6 : Option V) (names : List Str), σ = [some (.int c), some (.str Lt), some (.ref d), a3, a4, a5, a6] ∧ Same H H' ∧ H' d = some (.lst (strV names)) ∧ names.length = i ∧ Nms names) ⟨none, none, none, none, [], rfl, Same.new hd _, upd_same, rfl, ⟨by simp, by simp⟩⟩ ?_ ?_
  · rintro i σ H' hi ⟨a3, a4, a5, a6, names, rfl, s1, h1, hl, hN⟩
    walk_at "step"
    refine v_mulI (.inl ⟨by decide, by decide⟩) ?_
    refine v_shr (by omega) ?_
    walk_at "step"
    refine v_shl ⟨by decide, by decide, by decide⟩ ?_
    refine v_mod (by decide) ?_
    walk_at "step"
    refine ⟨_, rfl, fun p ns H2 s2 hp hp2 hS => ?_⟩
    walk_at "step"
    have fin : ∀ (x : Str) (b0 b1 b2 : Option V) (H' : Hp), Same H H' → H' d = some (.lst (strV (names ++ [x]))) → Nms (names ++ [x]) → (fun σ H' => ∃ (a3 a4 a5 a6 : Option V) (names : List Str), σ = [some (.int c), some (.str Lt), some (.ref d), a3, a4, a5, a6] ∧ Same H H' ∧ H' d = some (.lst (strV names)) ∧ names.length = i + 1 ∧ Nms names) [some (.int c), some (.str Lt), some (.ref d), some (.int i), b0, b1, b2] H' :=
      fun x b0 b1 b2 H' s h n => ⟨_, _, _, _, _, rfl, s, h, by simp [hl], n⟩
    by_cases h2 : c % 2 = 1
    · rw [decide_eq_true h2]; refine iteT ?_
      walk_at "step"
      refine ⟨c, 1, rfl, by decide, by decide, fun m hm => ?_⟩
      walk_at "step"
      refine ⟨_, rfl, fun p1 ns1 H3 s3 hp1 h3 hS1 => ?_⟩
      have hd3 := s3 _ _ (s2 _ _ h1)
      have npd : p1 ≠ d := (ne_free (s2 _ _ h1) hp1).symm
      walk_at "step"
      refine ⟨1, rfl, ?_⟩
      refine v_ixL (SqL.of h3) (atI_end (by rw [intV_len]; exact hS1.2.1) (by rw [intV_len]; exact intV_at (by have := hS1.2.1; omega))) ?_
      walk_at "step"
      refine ⟨1, rfl, ?_⟩
      refine .inl (v_setL h3 (ixN_last (by rw [intV_len]; exact hS1.2.1)) ?_)
      rw [intV_set]
      refine names_tail1 (H0 := H) ?_ hd ?_ upd_same (hS1.set _ (Int.emod_nonneg _ (by decide)) (Int.emod_lt_of_pos _ (by decide))) hN (by omega) fin
      · exact Same.put (Same.tr s1 (Same.tr s2 s3)) (Same.free s1 (Same.free s2 hp1)) _
      · rw [upd_ne npd.symm]; exact hd3
    · rw [decide_eq_false h2]; refine iteF ?_
      walk_at "step"
      exact names_tail1 (H0 := H) (Same.tr s1 s2) hd (s2 _ _ h1) hp2 hS hN (by omega) fin
  · rintro σ H' ⟨a3, a4, a5, a6, names, rfl, s1, h1, hl, hN⟩
    walk_at "step"
    exact q d names H' s1 hd h1 hl hN

end My

namespace My
open PySem L2
variable {K : PySem.W.Frag} {vs : List V} {H : Hp} {Q : VK} {E : XK}

def gd (l : List Str) (i : Nat) : Str := l.getD i ("" : Str)
def isSort (x : Str) : Prop := x = ("bare" : Str) ∨ x = ("plain" : Str) ∨ x = ("anew" : Str) ∨ x = ("room" : Str) ∨ x = ("frame" : Str)
theorem gd_set_self {l : List Str} {i : Nat} {x : Str} (h : i < l.length) : gd (l.set i x) i = x := by
  unfold gd; rw [List.getD_eq_getElem?_getD, List.getElem?_set_self h]; rfl
theorem gd_set_ne {l : List Str} {i j : Nat} {x : Str} (h : i ≠ j) : gd (l.set i x) j = gd l j := by
  unfold gd; rw [List.getD_eq_getElem?_getD, List.getD_eq_getElem?_getD, List.getElem?_set_ne h]
theorem gd_get {l : List Str} {i : Nat} (h : i < l.length) : l[i]? = some (gd l i) := by
  unfold gd; rw [List.getD_eq_getElem?_getD]; simp [h]
theorem gd_mem {l : List Str} {i : Nat} (h : i < l.length) : gd l i ∈ l := List.mem_of_getElem? (gd_get h)
theorem gd_inj {names : List Str} (hn : names.Nodup) {i j : Nat} (hi : i < names.length) (hj : j < names.length) (e : gd names i = gd names j) : i = j := by
  have e1 : gd names i = names[i] := by have := gd_get hi; rw [List.getElem?_eq_getElem hi] at this; exact (Option.some.inj this).symm
  have e2 : gd names j = names[j] := by have := gd_get hj; rw [List.getElem?_eq_getElem hj] at this; exact (Option.some.inj this).symm
  have h1 := hn.idxOf_getElem i hi
  have h2 := hn.idxOf_getElem j hj
  rw [← e1, e, e2, h2] at h1
  exact h1.symm
theorem at_str {xs : List Str} {i : Nat} (h : i < xs.length) : atI (strV xs) ((i : Nat) : Int) = some (.str (gd xs i)) := atI_nat (by unfold strV; rw [List.getElem?_map, gd_get h]; rfl)
theorem set_strV (xs : List Str) (i : Nat) (x : Str) : (strV xs).set i (.str x) = strV (xs.set i x) := by unfold strV; rw [List.map_set]
theorem ixN_nat {n k : Nat} (h : k < n) : ixN n ((k : Nat) : Int) = some k := by
  unfold ixN
  rw [if_pos (by omega), if_pos (by omega)]
  congr 1
def natD (js : List Nat) : List PyData := js.map fun (j : Nat) => .int (j : Int)
def natV (js : List Nat) : List V := js.map fun (j : Nat) => .int (j : Int)
theorem natV_len (js : List Nat) : (natV js).length = js.length := List.length_map _
theorem natV_app (js : List Nat) (j : Nat) : natV js ++ [V.int (j : Int)] = natV (js ++ [j]) := by simp [natV]
theorem dvs_nat {H : Hp} : ∀ js : List Nat, Dvs K H (natD js) (natV js)
  | [] => dvs_nil
  | j :: js => dvs_cons (dv_int.mpr rfl) (dvs_nat js)
theorem depth_nat : ∀ js : List Nat, PyData.depthAll (natD js) = 0
  | [] => by simp [natD, PyData.depthAll]
  | j :: js => by
    have := depth_nat js
    show PyData.depthAll (.int (j : Int) :: natD js) = 0
    rw [PyData.depthAll, this]; simp [PyData.depth]
theorem eqv_nat (js : List Nat) : PyData.eqv (.list (natD js)) (.list []) = decide (js = []) := by
  cases js with
  | nil => simp [natD, PyData.eqv, PyData.eqvAll]
  | cons j js => simp [natD, PyData.eqv, PyData.eqvAll]
theorem flat_natV (js : List Nat) : (natV js).all flatV = true := by unfold natV; rw [List.all_map]; exact List.all_eq_true.mpr fun _ _ => rfl
theorem inV_natV (x : Nat) : ∀ xs : List Nat, inV (.int (x : Int)) (natV xs) = decide (x ∈ xs)
  | [] => by simp [natV, inV]
  | y :: ys => by
    have ih := inV_natV x ys
    unfold inV at ih ⊢
    show (eqV (.int (y : Int)) (.int (x : Int)) || (natV ys).any fun z => eqV z (.int (x : Int))) = _
    rw [ih]
    by_cases e : x = y
    · subst e; simp [eqV]
    · have e' : ¬ ((y : Int) = (x : Int)) := fun z => e (by omega)
      simp [eqV, e, e']
theorem at_nat {js : List Nat} {i : Nat} (h : i < js.length) : ∃ j, j ∈ js ∧ atI (natV js) ((i : Nat) : Int) = some (.int (j : Nat)) := ⟨js[i], List.getElem_mem h, atI_nat (by unfold natV; rw [List.getElem?_map, List.getElem?_eq_getElem h]; rfl)⟩

/-! ### sorts and hosts -/
def isPF (x : Str) : Prop := x = ("plain" : Str) ∨ x = ("frame" : Str)
instance (x : Str) : Decidable (isPF x) := inferInstanceAs (Decidable (_ ∨ _))
structure Srt (names : List Str) (c : Nat) (S Hs : List Str) (T : List Nat) (k : Nat) : Prop where
  ls : S.length = c
  lh : Hs.length = c
  srt : ∀ x ∈ S, isSort x
  host : ∀ i, i < k → i < c → gd S i = ("frame" : Str) → ∃ j, i < j ∧ j < c ∧ gd Hs i = gd names j ∧ isPF (gd S j) ∧ j ∈ T
  no : ∀ i, i < c → (k ≤ i ∨ gd S i ≠ ("frame" : Str)) → gd Hs i = ("" : Str)
  tk : ∀ j ∈ T, j < c ∧ isPF (gd S j) ∧ ∃ i, i < j ∧ i < k ∧ gd S i = ("frame" : Str) ∧ gd Hs i = gd names j
  uq : ∀ i i', i < k → i' < k → i < c → i' < c → gd S i = ("frame" : Str) → gd S i' = ("frame" : Str) → gd Hs i = gd Hs i' → i = i'
  tl : T.length ≤ k
section
variable {names S Hs : List Str} {T : List Nat} {c k : Nat}
/-- k is no frame -/
theorem Srt.keep (g : Srt names c S Hs T k) (hk : k < c) (hf : gd S k ≠ ("frame" : Str)) : Srt names c S Hs T (k + 1) := by
  refine ⟨g.ls, g.lh, g.srt, fun i h1 h2 h3 => ?_, fun i h1 h2 => ?_, fun j hj => ?_, fun i i' a b e f g1 g2 g3 => ?_, Nat.le_succ_of_le g.tl⟩
  · by_cases e : i = k
    · subst e; exact absurd h3 hf
    · exact g.host i (by omega) h2 h3
  · rcases h2 with h2 | h2
    · exact g.no i h1 (.inl (by omega))
    · exact g.no i h1 (.inr h2)
  · obtain ⟨a, b, i, h1, h2, h3⟩ := g.tk j hj
    exact ⟨a, b, i, h1, by omega, h3⟩
  · have n1 : i ≠ k := fun z => by rw [z] at g1; exact hf g1
    have n2 : i' ≠ k := fun z => by rw [z] at g2; exact hf g2
    exact g.uq i i' (by omega) (by omega) e f g1 g2 g3
/-- a frame that finds no host is put otherwise -/
theorem Srt.put (g : Srt names c S Hs T k) (hk : k < c) (x : Str) (hx : isSort x) (hf : gd S k = ("frame" : Str)) (hnf : x ≠ ("frame" : Str)) (hT : k ∈ T → isPF x) : Srt names c (S.set k x) Hs T k := by
  have hkS : k < S.length := by rw [g.ls]; exact hk
  have pf : ∀ j, j ∈ T → isPF (gd S j) → isPF (gd (S.set k x) j) := fun j hj h => by
    by_cases e : k = j
    · subst e; rw [gd_set_self hkS]; exact hT hj
    · rw [gd_set_ne e]; exact h
  have fr : ∀ i, gd (S.set k x) i = ("frame" : Str) → i ≠ k ∧ gd S i = ("frame" : Str) := fun i h => by
    by_cases e : k = i
    · subst e; rw [gd_set_self hkS] at h; exact absurd h hnf
    · rw [gd_set_ne e] at h; exact ⟨fun z => e z.symm, h⟩
  refine ⟨by rw [List.length_set]; exact g.ls, g.lh, fun y hy => ?_, fun i h1 h2 h3 => ?_, fun i h1 h2 => ?_, fun j hj => ?_, fun i i' a b e f g1 g2 g3 => g.uq i i' a b e f (fr i g1).2 (fr i' g2).2 g3, g.tl⟩
  · rcases List.mem_or_eq_of_mem_set hy with h | h
    · exact g.srt y h
    · rw [h]; exact hx
  · obtain ⟨j, a, b, e, f, t⟩ := g.host i h1 h2 (fr i h3).2
    exact ⟨j, a, b, e, pf j t f, t⟩
  · rcases h2 with h2 | h2
    · exact g.no i h1 (.inl h2)
    · by_cases e : k = i
      · exact g.no i h1 (.inl (by omega))
      · rw [gd_set_ne e] at h2; exact g.no i h1 (.inr h2)
  · obtain ⟨a, b, i, h1, h2, h3, h4⟩ := g.tk j hj
    exact ⟨a, pf j hj b, i, h1, h2, by rw [gd_set_ne (by omega)]; exact h3, h4⟩
/-- a frame gets its host -/
theorem Srt.take (g : Srt names c S Hs T k) (hn : Nms names) (hcn : c ≤ names.length) (hk : k < c) (hf : gd S k = ("frame" : Str)) {j : Nat} (hj : k < j) (hj2 : j < c) (hp : isPF (gd S j)) (hT : j ∉ T) : Srt names c S (Hs.set k (gd names j)) (T ++ [j]) (k + 1) := by
  have hkH : k < Hs.length := by rw [g.lh]; exact hk
  refine ⟨g.ls, by rw [List.length_set]; exact g.lh, g.srt, fun i h1 h2 h3 => ?_, fun i h1 h2 => ?_, fun i hi => ?_, fun i i' a b e f g1 g2 g3 => ?_, by rw [List.length_append, List.length_singleton]; have := g.tl; omega⟩
  · by_cases e : k = i
    · subst e; exact ⟨j, hj, hj2, gd_set_self hkH, hp, by simp⟩
    · obtain ⟨j', a, b, e', f, t⟩ := g.host i (by omega) h2 h3
      exact ⟨j', a, b, by rw [gd_set_ne e]; exact e', f, by simp [t]⟩
  · by_cases e : k = i
    · subst e
      rcases h2 with h2 | h2
      · omega
      · exact absurd hf h2
    · rw [gd_set_ne e]
      rcases h2 with h2 | h2
      · exact g.no i h1 (.inl (by omega))
      · exact g.no i h1 (.inr h2)
  · rcases List.mem_append.mp hi with h | h
    · obtain ⟨a, b, i', h1, h2, h3, h4⟩ := g.tk i h
      exact ⟨a, b, i', h1, by omega, h3, by rw [gd_set_ne (by omega)]; exact h4⟩
    · rw [List.mem_singleton.mp h]; exact ⟨hj2, hp, k, hj, by omega, hf, gd_set_self hkH⟩
  · have other : ∀ m, m ≠ k → m < k + 1 → m < c → gd S m = ("frame" : Str) → gd Hs m ≠ gd names j := fun m h1 h2 h3 h4 h5 => by
      obtain ⟨j', a, b, e', f, t⟩ := g.host m (by omega) h3 h4
      rw [e'] at h5
      have := gd_inj hn.nd (by omega) (by omega) h5
      exact hT (this ▸ t)
    by_cases ei : k = i
    · by_cases ei' : k = i'
      · omega
      · subst ei; rw [gd_set_self hkH, gd_set_ne ei'] at g3
        exact absurd g3.symm (other i' (fun z => ei' z.symm) b f g2)
    · by_cases ei' : k = i'
      · subst ei'; rw [gd_set_self hkH, gd_set_ne ei] at g3
        exact absurd g3 (other i (fun z => ei z.symm) a e g1)
      · rw [gd_set_ne ei, gd_set_ne ei'] at g3
        exact g.uq i i' (by omega) (by omega) e f g1 g2 g3
end
def sort9 : List Str := ["plain", "anew", "frame", "plain", "room", "frame", "bare", "anew", "plain"]
theorem sort9_is : ∀ x ∈ sort9, isSort x := by
  intro x hx
  simp only [sort9, List.mem_cons, List.not_mem_nil, or_false] at hx
  unfold isSort
  rcases hx with h | h | h | h | h | h | h | h | h <;> simp [h]
def sortsT1 (K : PySem.W.Frag) : TS :=
 (tIfS (tTest (tOp (rEqA K) (tOp (rIxA K) (tVar 4) (tVar 7)) (tC (.str ("frame" : Str)))))
 (tSeq (tAsg (tOp (rIxA K) (tVar 8) (tOp (rI (fun _ j => 0 < j) fun i j => .int (i % j)) (tCall (sp__law_mixed K) [] E0 (tCons (tCall (sp__law_cell_at K) [] E0 (tCons (tVar 0) (tCons (tOp (rAddA K) (tC (.int 2)) (tVar 7)) tNil))) (tCons (tC (.int 2)) tNil))) (tCB (rLenA K) (tCons (tVar 8) tNil)))) (gName 9))
 (tSeq (tDrop (tBM K "list" rAppend (tVar 6) (tCons (tVar 9) tNil)))
 (tAsg (tOp (rIxA K) (tVar 1) (tVar 9)) (gSub (tVar 5) (tVar 7) rSetA)))) tNext)
def sortsT0 (K : PySem.W.Frag) : TS :=
 (tSeq (tIfS (tAnd (tTest (tOp (rEqA K) (tOp (rIxA K) (tVar 4) (tVar 7)) (tC (.str ("frame" : Str))))) (tTest (tOp (rEqA K) (tVar 8) (tLst tNil))))
 (tAsg (tOp (rIxA K) (tLst (tCons (tC (.str ("room" : Str))) (tCons (tC (.str ("plain" : Str))) tNil))) (tCB rIntA (tCons (tOp (rInB K false) (tVar 7) (tVar 6)) tNil))) (gSub (tVar 4) (tVar 7) rSetA)) tNext)
 (sortsT1 K))

structure Ap (H0 : Hp) (pS pH pT : Addr) : Prop where
  s0 : H0 pS = none
  h0 : H0 pH = none
  t0 : H0 pT = none
  sh : pS ≠ pH
  st : pS ≠ pT
  ht : pH ≠ pT
structure SH (H0 : Hp) (pS pH pT : Addr) (S Hs : List Str) (T : List Nat) (H' : Hp) : Prop where
  sm : Same H0 H'
  hS : H' pS = some (.lst (strV S))
  hH : H' pH = some (.lst (strV Hs))
  hT : H' pT = some (.lst (natV T))
section
variable {H0 H1 : Hp} {pS pH pT : Addr} {S Hs : List Str} {T : List Nat}
theorem SH.lay (s : SH H0 pS pH pT S Hs T H) {p : Addr} (hp : H p = none) (o : HO) : SH H0 pS pH pT S Hs T (upd H p o) :=
  ⟨Same.tr s.sm (Same.new hp o), by rw [upd_ne (ne_free s.hS hp)]; exact s.hS, by rw [upd_ne (ne_free s.hH hp)]; exact s.hH, by rw [upd_ne (ne_free s.hT hp)]; exact s.hT⟩
theorem SH.same (s : SH H0 pS pH pT S Hs T H) (h : Same H H1) : SH H0 pS pH pT S Hs T H1 := ⟨Same.tr s.sm h, h _ _ s.hS, h _ _ s.hH, h _ _ s.hT⟩
theorem SH.setS (s : SH H0 pS pH pT S Hs T H) (A : Ap H0 pS pH pT) (S' : List Str) : SH H0 pS pH pT S' Hs T (upd H pS (.lst (strV S'))) :=
  ⟨Same.put s.sm A.s0 _, upd_same, by rw [upd_ne A.sh.symm]; exact s.hH, by rw [upd_ne A.st.symm]; exact s.hT⟩
theorem SH.setH (s : SH H0 pS pH pT S Hs T H) (A : Ap H0 pS pH pT) (Hs' : List Str) : SH H0 pS pH pT S Hs' T (upd H pH (.lst (strV Hs'))) :=
  ⟨Same.put s.sm A.h0 _, by rw [upd_ne A.sh]; exact s.hS, upd_same, by rw [upd_ne A.ht.symm]; exact s.hT⟩
theorem SH.setT (s : SH H0 pS pH pT S Hs T H) (A : Ap H0 pS pH pT) (T' : List Nat) : SH H0 pS pH pT S Hs T' (upd H pT (.lst (natV T'))) :=
  ⟨Same.put s.sm A.t0 _, by rw [upd_ne A.st]; exact s.hS, by rw [upd_ne A.ht]; exact s.hH, upd_same⟩
end
theorem sorts_tail1 {D : Ends} {H0 : Hp} {sc nm pS pH pT pa : Addr} {ns : List Int} {names S Hs : List Str} {T js : List Nat} {c k : Nat} {a3 a9 : Option V} (A : Ap H0 pS pH pT) (hS : SqL K H0 sc (ns.map V.int)) (hN : H0 nm = some (.lst (strV names))) (nN : Nms names) (hcn : c ≤ names.length) (hc : c ≤ 12) (hk : k < c)
    (s : SH H0 pS pH pT S Hs T H) (g : Srt names c S Hs T k) (ha : H pa = some (.lst (natV js))) (hpa : H0 pa = none) (npT : pa ≠ pT) (npH : pa ≠ pH) (hjs : ∀ j ∈ js, k < j ∧ j < c ∧ isPF (gd S j) ∧ j ∉ T) (hne : gd S k = ("frame" : Str) → js ≠ []) (hjl : js.length ≤ 12)
    (q : ∀ (S' Hs' : List Str) (T' : List Nat) (b8 b9 : Option V) (H' : Hp), SH H0 pS pH pT S' Hs' T' H' → Srt names c S' Hs' T' (k + 1) → D.nx [some (.ref sc), some (.ref nm), some (.int c), a3, some (.ref pS), some (.ref pH), some (.ref pT), some (.int k), b8, b9] H') :
    sortsT1 K D [some (.ref sc), some (.ref nm), some (.int c), a3, some (.ref pS), some (.ref pH), some (.ref pT), some (.int k), some (.ref pa), a9] H := by
  unfold sortsT1
  walk_at "step"
  refine v_ixL (SqL.of s.hS) (at_str (by rw [g.ls]; exact hk)) ?_
  walk_at "step"
  by_cases hf : gd S k = ("frame" : Str)
  · rw [decide_eq_true hf]; refine iteT ?_
    have hne := hne hf
    have jl : 0 < js.length := List.length_pos_iff.mpr hne
    walk_at "step"
    refine ⟨sc, ns, _, rfl, s.sm.sqL hS, by omega, fun c0 => ?_⟩
    walk_at "step"
    refine ⟨c0, 2, rfl, by decide, by decide, fun m hm => ?_⟩
    walk_at "step"
    refine v_lenQ (.inl (SqL.of ha)) ?_
    rw [natV_len]
    refine v_mod (by omega) ?_
    have m0 := Int.emod_nonneg m (show ((js.length : Nat) : Int) ≠ 0 by omega)
    have m1 := Int.emod_lt_of_pos m (show (0 : Int) < ((js.length : Nat) : Int) by omega)
    obtain ⟨u, hu⟩ := Int.eq_ofNat_of_zero_le m0
    rw [hu]
    obtain ⟨j, hj, ej⟩ := at_nat (js := js) (i := u) (by omega)
    refine v_ixL (SqL.of ha) ej ?_
    obtain ⟨j1, j2, j3, j4⟩ := hjs j hj
    walk_at "step"
    refine ⟨.inl ⟨rfl, _, SqL.of s.hT⟩, ?_⟩
    walk_at "step"
    refine v_append s.hT (by rw [natV_len, sizeLine_eq]; have := g.tl; omega) ?_
    rw [natV_app]
    walk_at "step"
    have s2 := s.setT A (T ++ [j])
    refine v_ixL (SqL.of (s2.sm _ _ hN)) (at_str (by omega)) ?_
    walk_at "step"
    refine .inl (v_setL s2.hH (ixN_nat (by rw [strV_len, g.lh]; exact hk)) ?_)
    rw [set_strV]
    walk_at "step"
    exact q _ _ _ _ _ _ (s2.setH A _) (g.take nN hcn hk hf j1 j2 j3 j4)
  · rw [decide_eq_false hf]; refine iteF ?_
    walk_at "step"
    exact q _ _ _ _ _ _ s (g.keep hk hf)
theorem sorts_tail0 {D : Ends} {H0 : Hp} {sc nm pS pH pT pa : Addr} {ns : List Int} {names S Hs : List Str} {T js : List Nat} {c k : Nat} {a3 a9 : Option V} (A : Ap H0 pS pH pT) (hS : SqL K H0 sc (ns.map V.int)) (hN : H0 nm = some (.lst (strV names))) (nN : Nms names) (hcn : c ≤ names.length) (hc : c ≤ 12) (hk : k < c)
    (s : SH H0 pS pH pT S Hs T H) (g : Srt names c S Hs T k) (ha : H pa = some (.lst (natV js))) (hpa : H0 pa = none) (npT : pa ≠ pT) (npH : pa ≠ pH) (npS : pa ≠ pS) (hjs : ∀ j ∈ js, k < j ∧ j < c ∧ isPF (gd S j) ∧ j ∉ T) (hjl : js.length ≤ 12)
    (q : ∀ (S' Hs' : List Str) (T' : List Nat) (b8 b9 : Option V) (H' : Hp), SH H0 pS pH pT S' Hs' T' H' → Srt names c S' Hs' T' (k + 1) → D.nx [some (.ref sc), some (.ref nm), some (.int c), a3, some (.ref pS), some (.ref pH), some (.ref pT), some (.int k), b8, b9] H') :
    sortsT0 K D [some (.ref sc), some (.ref nm), some (.int c), a3, some (.ref pS), some (.ref pH), some (.ref pT), some (.int k), some (.ref pa), a9] H := by
  unfold sortsT0
  walk_at "step"
  refine v_ixL (SqL.of s.hS) (at_str (by rw [g.ls]; exact hk)) ?_
  walk_at "step"
  by_cases hf : gd S k = ("frame" : Str)
  · rw [decide_eq_true hf]; refine iteT ?_
    walk_at "step"
    refine ⟨sl64 (by simp), fun t ht => ?_⟩
    have s1 := s.lay ht (.lst [])
    have ha1 : (upd H t (.lst [])) pa = some (.lst (natV js)) := by rw [upd_ne (ne_free ha ht)]; exact ha
    refine v_eqD (d := .list (natD js)) (e := .list []) (dv_list.mpr ⟨pa, _, rfl, SqL.of ha1, dvs_nat js⟩) (dv_list.mpr ⟨t, [], rfl, SqL.of upd_same, dvs_nil⟩) (by rw [PyData.depth, depth_nat]; decide) ?_
    rw [eqv_nat]
    walk_at "step"
    by_cases hj : js = []
    · rw [decide_eq_true hj]; refine iteT ?_
      walk_at "step"
      refine ⟨sl64 (by simp), fun t2 ht2 => ?_⟩
      walk_at "step"
      have s2 := s1.lay ht2 (.lst [.str ("room" : Str), .str ("plain" : Str)])
      refine .inl (v_in (.inl (SqL.of s2.hT)) rfl (flat_natV _) ?_)
      rw [inV_natV]
      walk_at "step"
      have fin : ∀ x : Str, isSort x → x ≠ ("frame" : Str) → (k ∈ T → isPF x) → rSetA (.ref pS) (.int (k : Int)) (.str x) (upd (upd H t (.lst [])) t2 (.lst [.str ("room" : Str), .str ("plain" : Str)])) fun H3 => sortsT1 K D [some (.ref sc), some (.ref nm), some (.int c), a3, some (.ref pS), some (.ref pH), some (.ref pT), some (.int k), some (.ref pa), a9] H3 := by
        intro x h1 h2 h3
        refine .inl (v_setL s2.hS (ixN_nat (by rw [strV_len, g.ls]; exact hk)) ?_)
        rw [set_strV]
        have g2 := g.put hk x h1 hf h2 h3
        have nf : gd (S.set k x) k ≠ ("frame" : Str) := by rw [gd_set_self (by rw [g.ls]; exact hk)]; exact h2
        refine sorts_tail1 A hS hN nN hcn hc hk (s2.setS A _) g2 (js := []) ?_ hpa npT npH (by simp) (fun h => absurd h nf) (by simp) q
        have n2 : pa ≠ t2 := ne_free ha1 ht2
        rw [upd_ne npS, upd_ne n2, ha1, hj]
      by_cases hT : k ∈ T
      · rw [decide_eq_true hT]
        refine .inr ⟨true, rfl, ?_⟩
        refine v_ixL (SqL.of upd_same) (v := .str ("plain" : Str)) rfl ?_
        walk_at "step"
        exact fin _ (.inr (.inl rfl)) (by decide) fun _ => .inl rfl
      · rw [decide_eq_false hT]
        refine .inr ⟨false, rfl, ?_⟩
        refine v_ixL (SqL.of upd_same) (v := .str ("room" : Str)) rfl ?_
        walk_at "step"
        exact fin _ (.inr (.inr (.inr (.inl rfl)))) (by decide) fun h => absurd h hT
    · rw [decide_eq_false hj]; refine iteF ?_
      walk_at "step"
      exact sorts_tail1 A hS hN nN hcn hc hk s1 g ha1 hpa npT npH hjs (fun _ => hj) hjl q
  · rw [decide_eq_false hf]; refine iteF ?_
    refine iteF ?_
    walk_at "step"
    exact sorts_tail1 A hS hN nN hcn hc hk s g ha hpa npT npH hjs (fun h => absurd h hf) hjl q

theorem at_strs {zs : List Str} {i : Int} (h0 : 0 ≤ i) (h1 : i < zs.length) : ∃ z ∈ zs, atI (strV zs) i = some (.str z) := by
  obtain ⟨k, rfl⟩ := Int.eq_ofNat_of_zero_le h0
  exact ⟨gd zs k, gd_mem (by omega), at_str (by omega)⟩
theorem strV_app (zs : List Str) (z : Str) : strV zs ++ [V.str z] = strV (zs ++ [z]) := by simp [strV]
theorem gd_rep (n i : Nat) : gd (List.replicate n ("" : Str)) i = ("" : Str) := by
  unfold gd
  rw [List.getD_eq_getElem?_getD, List.getElem?_replicate]
  split <;> rfl
theorem srt_start {names S : List Str} {c : Nat} (h : S.length = c) (hs : ∀ x ∈ S, isSort x) : Srt names c S (List.replicate c ("" : Str)) [] 0 :=
  ⟨h, List.length_replicate, hs, fun i h => by omega, fun i _ _ => gd_rep _ _, fun j h => by simp at h, fun i _ h => by omega, Nat.le_refl _⟩
def sp__law_sorts (K : PySem.W.Frag) : Sp := fun vs H Q _ => ∃ (sc nm : Addr) (ns : List Int) (names : List Str) (c : Nat), vs = [.ref sc, .ref nm, .int c] ∧ SqL K H sc (ns.map V.int) ∧ H nm = some (.lst (strV names)) ∧ Nms names ∧ c ≤ names.length ∧ c ≤ 12 ∧ ∀ (t pS pH pT : Addr) (S Hs : List Str) (T : List Nat) (H' : Hp), Same H H' → H' t = some (.tup [.ref pS, .ref pH, .ref pT]) → H' pS = some (.lst (strV S)) → H' pH = some (.lst (strV Hs)) → H' pT = some (.lst (natV T)) → Srt names c S Hs T c → Q (.ref t) H'
theorem len__law_sorts (K : PySem.W.Frag) : ∀ vs H Q E, sp__law_sorts K vs H Q E → vs.length = ["_law_script", "_law_names_here", "_law_count"].length := by rintro vs H Q E ⟨sc, nm, ns, names, c, rfl, _⟩; rfl
def R__law_sorts (K : PySem.W.Frag) : TS :=
 (tSeq (tAsg (tLst (tStrs [("plain" : Str), ("anew" : Str), ("frame" : Str), ("plain" : Str), ("room" : Str), ("frame" : Str), ("bare" : Str), ("anew" : Str), ("plain" : Str)])) (gName 3))
 (tSeq (tAsg (tComp [some 3, some 0, none] (iRng1 (tCons (tVar 2) tNil)) (gName 2) tTT (tOp (rIxA K) (tVar 0) (tOp (rI (fun _ j => 0 < j) fun i j => .int (i % j)) (tCall (sp__law_mixed K) [] E0 (tCons (tCall (sp__law_cell_at K) [] E0 (tCons (tVar 1) (tCons (tOp (rAddA K) (tC (.int 2)) (tVar 2)) tNil))) (tCons (tC (.int 1)) tNil))) (tC (.int 9))))) (gName 4))
 (tSeq (tAsg (tComp [none] (iRng1 (tCons (tVar 2) tNil)) (gName 0) tTT (tC (.str ("" : Str)))) (gName 5))
 (tSeq (tAsg (tLst tNil) (gName 6))
 (tSeq (tFor (iRng1 (tCons (tVar 2) tNil)) (gName 7)
 (tSeq (tAsg (tComp [some 6, some 4, none] (iRng2 (tCons (tOp (rAddA K) (tVar 7) (tC (.int 1))) (tCons (tVar 2) tNil))) (gName 2) (tAnd (tTest (tOp (rInB K false) (tOp (rIxA K) (tVar 1) (tVar 2)) (tTup (tCons (tC (.str ("plain" : Str))) (tCons (tC (.str ("frame" : Str))) tNil))))) (tTest (tOp (rInB K true) (tVar 2) (tVar 0)))) (tVar 2)) (gName 8))
 (sortsT0 K)))
 (tRet (tTup (tCons (tVar 4) (tCons (tVar 5) (tCons (tVar 6) tNil))))))))))
theorem rd__law_sorts (h : sp__law_sorts K vs H Q E) : R__law_sorts K { nx := fun _ H' => Q .non H', rt := Q } (start ["_law_script", "_law_names_here", "_law_count", "_law_some", "_law_sorts_here", "_law_hosts_here", "_law_taken", "_law_k", "_law_able", "_law_j"] vs) H := by
  obtain ⟨sc, nm, ns, names, c, rfl, hS, hN, nN, hcn, hc, q⟩ := h
  show R__law_sorts K _ [some (.ref sc), some (.ref nm), some (.int c), none, none, none, none, none, none, none] H
  unfold R__law_sorts
  walk_at "step"
  refine ⟨sl64 (show (9 : Nat) ≤ _ by decide), fun p9 h9 => ?_⟩
  walk_at "step"
  have s9 : Same H (upd H p9 (.lst (strV sort9))) := Same.new h9 _
  refine rng1_comp (by omega) (by omega) (fun i ys H' => H' = upd H p9 (.lst (strV sort9)) ∧ ∃ zs : List Str, ys = strV zs ∧ zs.length = i ∧ ∀ x ∈ zs, isSort x) ⟨rfl, [], rfl, rfl, by simp⟩ ?_ ?_ ?_
  · rintro i ys H' hi ⟨_, zs, rfl, hz, _⟩
    rw [strV_len]; exact sl64 (by omega)
  · rintro i ys H' hi ⟨rfl, zs, rfl, hz, hzs⟩
    walk_at "step"
    refine ⟨sc, ns, _, rfl, s9.sqL hS, by omega, fun c0 => ?_⟩
    walk_at "step"
    refine ⟨c0, 1, rfl, by decide, by decide, fun m hm => ?_⟩
    walk_at "step"
    obtain ⟨z, hz1, hz2⟩ := at_strs (zs := sort9) (Int.emod_nonneg m (by decide)) (Int.emod_lt_of_pos m (by decide))
    refine v_ixL (SqL.of upd_same) hz2 ?_
    refine ⟨rfl, zs ++ [z], strV_app _ _, by simp [hz], fun x hx => ?_⟩
    rcases List.mem_append.mp hx with h | h
    · exact hzs x h
    · rw [List.mem_singleton.mp h]; exact sort9_is z hz1
  rintro ys H1 ⟨rfl, S, rfl, hSl, hSs⟩ pS hpS
  walk_at "step"
  have hpS0 : H pS = none := Same.free s9 hpS
  have sS : Same H (upd (upd H p9 (.lst (strV sort9))) pS (.lst (strV S))) := Same.tr s9 (Same.new hpS _)
  generalize hHS : upd (upd H p9 (.lst (strV sort9))) pS (.lst (strV S)) = HS at *
  have hqS : HS pS = some (.lst (strV S)) := by rw [← hHS]; exact upd_same
  refine rng1_comp (by omega) (by omega) (fun i ys H' => H' = HS ∧ ys = strV (List.replicate i ("" : Str))) ⟨rfl, rfl⟩ ?_ ?_ ?_
  · rintro i ys H' hi ⟨_, rfl⟩
    rw [strV_len, List.length_replicate]; exact sl64 (by omega)
  · rintro i ys H' hi ⟨rfl, rfl⟩
    walk_at "step"
    exact ⟨rfl, by rw [strV_app, List.replicate_succ']⟩
  rintro ys H2 ⟨rfl, rfl⟩ pH hpH
  walk_at "step"
  have hpH0 : H pH = none := Same.free sS hpH
  refine ⟨sl64 (by simp), fun pT hpT => ?_⟩
  have hpT0 : H pT = none := Same.free (Same.tr sS (Same.new hpH _)) hpT
  have nSH : pS ≠ pH := ne_free hqS hpH
  have nST : pS ≠ pT := ne_free (show (upd H2 pH _) pS = _ by rw [upd_ne nSH]; exact hqS) hpT
  have nHT : pH ≠ pT := fun e => by rw [← e, upd_same] at hpT; cases hpT
  have A : Ap H pS pH pT := ⟨hpS0, hpH0, hpT0, nSH, nST, nHT⟩
  have eS : S.length = c := by omega
  have ec : ((c : Int)).toNat = c := by omega
  rw [ec] at *
  walk_at "step"
  refine rng1_for (by omega) (by omega) (fun i σ H' => ∃ (a7 a8 a9 : Option V) (S Hs : List Str) (T : List Nat), σ = [some (.ref sc), some (.ref nm), some (.int c), some (.ref p9), some (.ref pS), some (.ref pH), some (.ref pT), a7, a8, a9] ∧ SH H pS pH pT S Hs T H' ∧ Srt names c S Hs T i) ?_ ?_ ?_
  · refine ⟨none, none, none, S, List.replicate c ("" : Str), [], rfl, ⟨Same.tr sS (Same.tr (Same.new hpH _) (Same.new hpT _)), ?_, ?_, upd_same⟩, srt_start eS hSs⟩
    · rw [upd_ne nST, upd_ne nSH]; exact hqS
    · rw [upd_ne nHT]; exact upd_same
  · rintro i σ H' hi ⟨a7, a8, a9, S, Hs, T, rfl, s, g⟩
    walk_at "step"
    refine rng2_comp (by omega) (by omega) (by omega) (fun m ys H'' => SH H pS pH pT S Hs T H'' ∧ ∃ js : List Nat, ys = natV js ∧ js.length ≤ m ∧ ∀ j ∈ js, i < j ∧ j < c ∧ isPF (gd S j) ∧ j ∉ T) ⟨s, [], rfl, Nat.le_refl _, by simp⟩ ?_ ?_ ?_
    · rintro m ys H'' hm ⟨_, js, rfl, hl, _⟩
      rw [natV_len]; exact sl64 (by omega)
    · rintro m ys H'' hm ⟨s', js, rfl, hl, hjs⟩
      have ej : (i : Int) + 1 + (m : Int) = ((i + 1 + m : Nat) : Int) := by omega
      rw [ej]
      walk_at "step"
      refine v_ixL (SqL.of s'.hS) (at_str (by rw [g.ls]; omega)) ?_
      walk_at "step"
      refine ⟨sl64 (by simp), fun t ht => ?_⟩
      have s2 := s'.lay ht (.tup [.str ("plain" : Str), .str ("frame" : Str)])
      refine .inl (v_in (xs := strV [("plain" : Str), ("frame" : Str)]) (.inr (SqT.of upd_same)) rfl (flat_strV _) ?_)
      rw [inV_strV]
      walk_at "step"
      by_cases hp : isPF (gd S (i + 1 + m))
      · rw [decide_eq_true (show gd S (i + 1 + m) ∈ [("plain" : Str), ("frame" : Str)] by rcases hp with h | h <;> rw [h] <;> simp)]
        refine iteT ?_
        walk_at "step"
        refine .inl (v_notin (.inl (SqL.of s2.hT)) rfl (flat_natV _) ?_)
        rw [inV_natV]
        walk_at "step"
        by_cases hT : (i + 1 + m) ∈ T
        · rw [decide_eq_true hT]
          refine iteF ?_
          exact ⟨s2, js, rfl, by omega, hjs⟩
        · rw [decide_eq_false hT]
          refine iteT ?_
          walk_at "step"
          refine ⟨s2, js ++ [i + 1 + m], natV_app _ _, by rw [List.length_append, List.length_singleton]; omega, fun j hj => ?_⟩
          rcases List.mem_append.mp hj with h | h
          · exact hjs j h
          · rw [List.mem_singleton.mp h]; exact ⟨by omega, by omega, hp, hT⟩
      · rw [decide_eq_false (show ¬ gd S (i + 1 + m) ∈ [("plain" : Str), ("frame" : Str)] from fun h => hp (by simpa [isPF] using h))]
        refine iteF ?_
        refine iteF ?_
        exact ⟨s2, js, rfl, by omega, hjs⟩
    rintro ys H3 ⟨s3, js, rfl, hl, hjs⟩ pa hpa
    walk_at "step"
    refine sorts_tail0 A hS hN nN hcn hc (by omega) (s3.lay hpa _) g upd_same (Same.free s3.sm hpa) (ne_free s3.hT hpa).symm (ne_free s3.hH hpa).symm (ne_free s3.hS hpa).symm hjs (by omega) ?_
    intro S' Hs' T' b8 b9 H4 s4 g4
    exact ⟨_, _, _, S', Hs', T', rfl, s4, g4⟩
  · rintro σ H' ⟨a7, a8, a9, S, Hs, T, rfl, s, g⟩
    walk_at "step"
    refine ⟨sl64 (by simp), fun t ht => ?_⟩
    have s2 := s.lay ht (.tup [.ref pS, .ref pH, .ref pT])
    rw [ec] at g
    exact q t pS pH pT S Hs T _ s2.sm upd_same s2.hS s2.hH s2.hT g

end My

namespace My
open PySem L2
variable {K : PySem.W.Frag} {vs : List V} {H : Hp} {Q : VK} {E : XK}
theorem fixs_sDa : ∀ xs : List Str, fixs (sDa xs) = true
  | [] => by show fixs [] = true; rw [fixs]
  | x :: xs => by show fixs (.str x :: sDa xs) = true; rw [fixs, fixs_sDa xs, fix]; rfl
theorem fix_row (r : Row) : fix r.da = true := by
  unfold Row.da
  simp [fix, fixs, fixs_sDa]
theorem fix_rows : ∀ rs : List Row, fixs (rs.map Row.da) = true
  | [] => by show fixs [] = true; rw [fixs]
  | r :: rs => by show fixs (r.da :: rs.map Row.da) = true; rw [fixs, fix_row, fix_rows rs]; rfl
theorem dvs_ins {H : Hp} {d : PyData} {v : V} (h : Dv K H d v) : ∀ {ds : List PyData} {vs : List V} (k : Nat), Dvs K H ds vs → Dvs K H (insAt ds k d) (insAt vs k v)
  | ds, vs, 0, t => by unfold insAt; simpa using dvs_cons h t
  | [], vs, k + 1, t => by
    rw [Dvs] at t; subst t
    unfold insAt; simpa using dvs_cons h dvs_nil
  | e :: ds, vs, k + 1, t => by
    rw [Dvs] at t
    obtain ⟨w, r, rfl, h1, h2⟩ := t
    have := dvs_ins h k h2
    unfold insAt at this ⊢
    simpa using dvs_cons h1 this
theorem ins_map {α β : Type} (f : α → β) (l : List α) (k : Nat) (x : α) : insAt (l.map f) k (f x) = (insAt l k x).map f := by
  unfold insAt; simp [List.map_take, List.map_drop]
theorem ins_perm {α : Type} (l : List α) (k : Nat) (x : α) : (insAt l k x).Perm (x :: l) := by
  unfold insAt
  have := List.perm_middle (l₁ := l.take k) (l₂ := l.drop k) (a := x)
  rwa [List.take_append_drop] at this
theorem ins_len {α : Type} (l : List α) (k : Nat) (x : α) : (insAt l k x).length = l.length + 1 := (ins_perm l k x).length_eq

/-- a drawn book -/
structure Boo (rs : List Row) : Prop where
  l1 : 1 ≤ rs.length
  l2 : rs.length ≤ 12
  nd : (rs.map (·.name)).Nodup
  ne : ∀ r ∈ rs, r.name ≠ ("" : Str)
  rk : ∃ rk : Str → Nat, (∀ r ∈ rs, rk r.name < 12) ∧ ∀ r ∈ rs, r.sort = ("frame" : Str) → (∃ r' ∈ rs, r'.name = r.host ∧ isPF r'.sort) ∧ rk r.name < rk r.host
  noh : ∀ r ∈ rs, r.sort ≠ ("frame" : Str) → r.host = ("" : Str)
  uq : ∀ r ∈ rs, ∀ r' ∈ rs, r.sort = ("frame" : Str) → r'.sort = ("frame" : Str) → r.host = r'.host → r.name = r'.name
  srt : ∀ r ∈ rs, isSort r.sort
structure RA (names S Hs : List Str) (j : Nat) (r : Row) : Prop where
  name : r.name = gd names j
  sort : r.sort = gd S j
  host : r.host = gd Hs j
theorem idx_gd {names : List Str} (hn : names.Nodup) {j : Nat} (hj : j < names.length) : names.idxOf (gd names j) = j := by
  have e : gd names j = names[j] := by have := gd_get hj; rw [List.getElem?_eq_getElem hj] at this; exact (Option.some.inj this).symm
  rw [e]; exact hn.idxOf_getElem j hj
theorem boo_of {names S Hs : List Str} {T : List Nat} {c : Nat} {rs l : List Row} (hn : Nms names) (hcn : c ≤ names.length) (hn12 : names.length ≤ 12) (h1 : 1 ≤ c) (g : Srt names c S Hs T c) (p : rs.Perm l) (hl : l.length = c) (ra : ∀ j r, l[j]? = some r → RA names S Hs j r) : Boo rs := by
  have at_ : ∀ r ∈ rs, ∃ j, j < c ∧ RA names S Hs j r ∧ l[j]? = some r := fun r hr => by
    obtain ⟨j, hj, e⟩ := List.getElem_of_mem (p.mem_iff.mp hr)
    have e2 : l[j]? = some r := by rw [List.getElem?_eq_getElem hj, e]
    exact ⟨j, by omega, ra j r e2, e2⟩
  have lp := p.length_eq
  refine ⟨by omega, by omega, ?_, fun r hr => ?_, ⟨names.idxOf, fun r hr => ?_, fun r hr hf => ?_⟩, fun r hr hf => ?_, fun r hr r' hr' hf hf' e => ?_, fun r hr => ?_⟩
  · refine (p.map _).nodup_iff.mpr ?_
    have e : l.map (·.name) = names.take c := by
      apply List.ext_getElem?
      intro i
      rw [List.getElem?_map, List.getElem?_take]
      by_cases hi : i < c
      · have e1 : l[i]? = some l[i] := List.getElem?_eq_getElem (by omega)
        rw [if_pos hi, e1, gd_get (by omega)]
        show some (l[i].name) = _
        rw [(ra i _ e1).name]
      · rw [if_neg hi, List.getElem?_eq_none_iff.mpr (by omega)]; rfl
    rw [e]
    exact hn.nd.sublist (List.take_sublist _ _)
  · obtain ⟨j, hj, R, _⟩ := at_ r hr
    rw [R.name]; exact hn.ne _ (gd_mem (by omega))
  · obtain ⟨j, hj, R, _⟩ := at_ r hr
    rw [R.name]
    show names.idxOf (gd names j) < 12
    rw [idx_gd hn.nd (by omega)]; omega
  · obtain ⟨i, hi, R, _⟩ := at_ r hr
    obtain ⟨j, h1, h2, h3, h4, _⟩ := g.host i hi hi (by rw [← R.sort]; exact hf)
    have ej : l[j]? = some l[j] := List.getElem?_eq_getElem (by omega)
    have Rj := ra j _ ej
    refine ⟨⟨l[j], p.mem_iff.mpr (List.mem_of_getElem? ej), ?_, by rw [Rj.sort]; exact h4⟩, ?_⟩
    · rw [Rj.name, R.host, h3]
    · rw [R.name, R.host, h3]
      show names.idxOf (gd names i) < names.idxOf (gd names j)
      rw [idx_gd hn.nd (by omega), idx_gd hn.nd (by omega)]; exact h1
  · obtain ⟨i, hi, R, _⟩ := at_ r hr
    rw [R.host]; exact g.no i hi (.inr (by rw [← R.sort]; exact hf))
  · obtain ⟨i, hi, R, _⟩ := at_ r hr
    obtain ⟨j, hj, R', _⟩ := at_ r' hr'
    have := g.uq i j hi hj hi hj (by rw [← R.sort]; exact hf) (by rw [← R'.sort]; exact hf') (by rw [← R.host, ← R'.host]; exact e)
    rw [R.name, R'.name, this]
  · obtain ⟨i, hi, R, _⟩ := at_ r hr
    rw [R.sort]; exact g.srt _ (gd_mem (by rw [g.ls]; exact hi))
theorem natV_get {js : List Nat} {i : Nat} {x : V} (h : (natV js)[i]? = some x) : ∃ j : Nat, js[i]? = some j ∧ x = .int (j : Int) := by
  unfold natV at h
  rw [List.getElem?_map] at h
  obtain ⟨y, hy, e⟩ := Option.map_eq_some_iff.mp h
  exact ⟨y, hy, e.symm⟩
def sp__law_book (K : PySem.W.Frag) : Sp := fun vs H Q _ => ∃ (sc : Addr) (ns : List Int), vs = [.ref sc] ∧ SqL K H sc (ns.map V.int) ∧ ∀ (t : Addr) (us : List V) (rs : List Row) (H' : Hp), Same H H' → H' t = some (.tup us) → Dvs K H' (rs.map Row.da) us → Boo rs → Q (.ref t) H'
theorem len__law_book (K : PySem.W.Frag) : ∀ vs H Q E, sp__law_book K vs H Q E → vs.length = ["_law_script"].length := by rintro vs H Q E ⟨sc, ns, rfl, _⟩; rfl
def R__law_book (K : PySem.W.Frag) : TS :=
 (tSeq (tAsg (tCall (sp__law_names K) [] E0 (tCons (tCall (sp__law_cell_at K) [] E0 (tCons (tVar 0) (tCons (tC (.int 0)) tNil))) tNil)) (gName 1))
 (tSeq (tAsg (tOp (rAddA K) (tC (.int 1)) (tOp (rI (fun _ j => 0 < j) fun i j => .int (i % j)) (tCall (sp__law_cell_at K) [] E0 (tCons (tVar 0) (tCons (tC (.int 1)) tNil))) (tC (.int 12)))) (gName 2))
 (tSeq (tAsg (tCall (sp__law_sorts K) [] E0 (tCons (tVar 0) (tCons (tVar 1) (tCons (tVar 2) tNil)))) (gTup K 3 (gCons (gName 3) (gCons (gName 4) (gCons (gName 5) gNil)))))
 (tSeq (tAsg (tLst tNil) (gName 6))
 (tSeq (tFor (iRng1 (tCons (tVar 2) tNil)) (gName 7)
 (tSeq (tAsg (tCall (sp__law_cell_at K) [] E0 (tCons (tVar 0) (tCons (tOp (rAddA K) (tC (.int 2)) (tVar 7)) tNil))) (gName 8))
 (tSeq (tAsg (tComp [some 3, none] (iRng1 (tCons (tVar 2) tNil)) (gName 1) (tTest (tOp (rInB K false) (tOp (rIxA K) (tVar 0) (tVar 1)) (tTup (tCons (tC (.str ("plain" : Str))) (tCons (tC (.str ("anew" : Str))) tNil))))) (tVar 1)) (gName 9))
 (tSeq (tAsg (tComp [some 1, some 5, some 7, some 8, none] (iAny K (tVar 9)) (gName 4) (tAnd (tTest (tOp (rInB K true) (tVar 4) (tVar 1))) (tAnd (tTest (tOp (rInB K true) (tVar 2) (tVar 1))) (tTest (tOp (rEqA K) (tOp (rI (fun _ j => 0 < j) fun i j => .int (i % j)) (tCall (sp__law_mixed K) [] E0 (tCons (tVar 3) (tCons (tOp (rAddA K) (tC (.int 3)) (tVar 4)) tNil))) (tC (.int 5))) (tC (.int 0)))))) (tOp (rIxA K) (tVar 0) (tVar 4))) (gName 10))
 (tSeq (tAsg (tComp [some 1, some 8, none] (iAny K (tVar 9)) (gName 2) (tTest (tOp (rEqA K) (tOp (rI (fun _ j => 0 < j) fun i j => .int (i % j)) (tCall (sp__law_mixed K) [] E0 (tCons (tVar 1) (tCons (tOp (rAddA K) (tC (.int 20)) (tVar 2)) tNil))) (tC (.int 8))) (tC (.int 0)))) (tOp (rIxA K) (tVar 0) (tVar 2))) (gName 11))
 (tSeq (tAsg (tTup (tCons (tOp (rIxA K) (tVar 1) (tVar 7)) (tCons (tOp (rIxA K) (tVar 3) (tVar 7)) (tCons (tOp (rIxA K) (tVar 4) (tVar 7)) (tCons (tCB (rTupleA K) (tCons (tCB (rSortedS K) (tCons (tVar 10) tNil)) tNil)) (tCons (tCB (rTupleA K) (tCons (tCB (rSortedS K) (tCons (tVar 11) tNil)) tNil)) tNil)))))) (gName 12))
 (tDrop (tBM K "list" rInsert (tVar 6) (tCons (tOp (rI (fun _ j => 0 < j) fun i j => .int (i % j)) (tCall (sp__law_mixed K) [] E0 (tCons (tVar 8) (tCons (tC (.int 32)) tNil))) (tOp (rAddA K) (tVar 7) (tC (.int 1)))) (tCons (tVar 12) tNil))))))))))
 (tRet (tCB (rTupleA K) (tCons (tVar 6) tNil))))))))
theorem rd__law_book (h : sp__law_book K vs H Q E) : R__law_book K { nx := fun _ H' => Q .non H', rt := Q } (start ["_law_script", "_law_names_here", "_law_count", "_law_sorts_here", "_law_hosts_here", "_law_taken", "_law_rows", "_law_k", "_law_own", "_law_able", "_law_shuts", "_law_bars", "_law_row_here"] vs) H := by
  obtain ⟨sc, ns, rfl, hS, q⟩ := h
  show R__law_book K _ [some (.ref sc), none, none, none, none, none, none, none, none, none, none, none, none] H
  unfold R__law_book
  walk_at "step"
  refine ⟨sc, ns, 0, rfl, hS, by decide, fun c0 => ?_⟩
  walk_at "step"
  refine ⟨c0, rfl, fun nm names H1 s1 hn0 hN hN12 nN => ?_⟩
  walk_at "step"
  refine ⟨sc, ns, 1, rfl, s1.sqL hS, by decide, fun c1 => ?_⟩
  walk_at "step"
  have m0 := Int.emod_nonneg c1 (show (12 : Int) ≠ 0 by decide)
  have m1 := Int.emod_lt_of_pos c1 (show (0 : Int) < 12 by decide)
  obtain ⟨c, hc, hc1, hc12⟩ : ∃ c : Nat, (1 : Int) + c1 % 12 = (c : Int) ∧ 1 ≤ c ∧ c ≤ 12 := ⟨((1 : Int) + c1 % 12).toNat, by omega, by omega, by omega⟩
  rw [hc]
  refine ⟨sc, nm, ns, names, c, rfl, s1.sqL hS, hN, nN, by omega, hc12, fun t3 pS pH pT S Hs T H2 s2 ht3 hpS hpH hpT g => ?_⟩
  refine ⟨t3, _, rfl, SqT.of ht3, rfl, _, _, rfl, st_name ⟨_, _, rfl, st_name ⟨_, _, rfl, st_name ⟨rfl, ?_⟩⟩⟩⟩
  walk_at "step"
  refine ⟨sl64 (by simp), fun pr hpr => ?_⟩
  walk_at "step"
  have sA : Same H H2 := Same.tr s1 s2
  refine rng1_for (by omega) (by omega) (fun i σ H' => ∃ (a7 a8 a9 a10 a11 a12 : Option V) (us : List V) (rs l : List Row), σ = [some (.ref sc), some (.ref nm), some (.int c), some (.ref pS), some (.ref pH), some (.ref pT), some (.ref pr), a7, a8, a9, a10, a11, a12] ∧ Same H2 H' ∧ H' pr = some (.lst us) ∧ Dvs K H' (rs.map Row.da) us ∧ rs.Perm l ∧ l.length = i ∧ ∀ j r, l[j]? = some r → RA names S Hs j r) ?_ ?_ ?_
  · exact ⟨none, none, none, none, none, none, [], [], [], rfl, Same.new hpr _, upd_same, dvs_nil, .nil, rfl, fun j r h => by simp at h⟩
  · rintro i σ H' hi ⟨a7, a8, a9, a10, a11, a12, us, rs, l, rfl, s3, hr, dv, pm, hl, ra⟩
    have rl : us.length = i := by rw [dv.length, List.length_map, pm.length_eq, hl]
    walk_at "step"
    refine ⟨sc, ns, _, rfl, s3.sqL (sA.sqL hS), by omega, fun own => ?_⟩
    walk_at "step"
    refine rng1_comp (by omega) (by omega) (fun m ys H'' => Same H' H'' ∧ ∃ js : List Nat, ys = natV js ∧ js.length ≤ m ∧ ∀ j ∈ js, j < c) ⟨Same.refl _, [], rfl, Nat.le_refl _, by simp⟩ ?_ ?_ ?_
    · rintro m ys H'' hm ⟨_, js, rfl, hjl, _⟩
      rw [natV_len]; exact sl64 (by omega)
    · rintro m ys H'' hm ⟨s4, js, rfl, hjl, hjs⟩
      walk_at "step"
      refine v_ixL (SqL.of (s4 _ _ (s3 _ _ hpS))) (at_str (by rw [g.ls]; omega)) ?_
      walk_at "step"
      refine ⟨sl64 (by simp), fun t ht => ?_⟩
      refine .inl (v_in (xs := strV [("plain" : Str), ("anew" : Str)]) (.inr (SqT.of upd_same)) rfl (flat_strV _) ?_)
      rw [inV_strV]
      walk_at "step"
      by_cases hp : gd S m ∈ [("plain" : Str), ("anew" : Str)]
      · rw [decide_eq_true hp]
        refine iteT ?_
        walk_at "step"
        refine ⟨Same.tr s4 (Same.new ht _), js ++ [m], natV_app _ _, by rw [List.length_append, List.length_singleton]; omega, fun j hj => ?_⟩
        rcases List.mem_append.mp hj with h | h
        · exact hjs j h
        · rw [List.mem_singleton.mp h]; omega
      · rw [decide_eq_false hp]
        refine iteF ?_
        exact ⟨Same.tr s4 (Same.new ht _), js, rfl, by omega, hjs⟩
    rintro ys H3 ⟨s4, js, rfl, hjl, hjs⟩ pa hpa
    have jl : js.length ≤ 12 := by omega
    walk_at "step"
    have s5 : Same H' (upd H3 pa (.lst (natV js))) := Same.tr s4 (Same.new hpa _)
    have ha : (upd H3 pa (.lst (natV js))) pa = some (.lst (natV js)) := upd_same
    generalize upd H3 pa (.lst (natV js)) = H4 at *
    refine any_compL (xs := natV js) (SqL.of ha) (fun m ys H'' => H'' = H4 ∧ ∃ zs : List Str, ys = strV zs ∧ zs.length ≤ m) ⟨rfl, [], rfl, Nat.le_refl _⟩ ?_ ?_ ?_ ?_
    · rintro m ys H'' hm ⟨_, zs, rfl, hz⟩
      rw [natV_len] at hm
      rw [strV_len]; exact sl64 (by omega)
    · rintro m ys H'' hm ⟨rfl, _⟩
      exact SqL.of ha
    · rintro m x ys H'' hx ⟨rfl, zs, rfl, hz⟩
      obtain ⟨j, hj, rfl⟩ := natV_get hx
      have hjc := hjs j (List.mem_of_getElem? hj)
      have sT : H'' pT = some (.lst (natV T)) := s5 _ _ (s3 _ _ hpT)
      have stop : (fun H' => H' = H'' ∧ ∃ zs' : List Str, strV zs = strV zs' ∧ zs'.length ≤ m + 1) H'' := ⟨rfl, zs, rfl, by omega⟩
      walk_at "step"
      refine .inl (v_notin (.inl (SqL.of sT)) rfl (flat_natV _) ?_)
      rw [inV_natV]
      walk_at "step"
      by_cases h1 : j ∈ T
      · rw [decide_eq_true h1]
        refine iteF ?_
        refine iteF ?_
        exact stop
      · rw [decide_eq_false h1]
        refine iteT ?_
        walk_at "step"
        refine .inl (v_notin (.inl (SqL.of sT)) rfl (flat_natV _) ?_)
        rw [inV_natV]
        walk_at "step"
        by_cases h2 : i ∈ T
        · rw [decide_eq_true h2]
          refine iteF ?_
          refine iteF ?_
          exact stop
        · rw [decide_eq_false h2]
          refine iteT ?_
          walk_at "step"
          refine ⟨own, _, rfl, by omega, by omega, fun n5 hn5 => ?_⟩
          walk_at "step"
          by_cases h3 : n5 % 5 = 0
          · rw [decide_eq_true h3]
            refine iteT ?_
            walk_at "step"
            refine v_ixL (SqL.of (s5 _ _ (s3 _ _ (s2 _ _ hN)))) (at_str (by omega)) ?_
            exact ⟨rfl, zs ++ [gd names j], strV_app _ _, by rw [List.length_append, List.length_singleton]; omega⟩
          · rw [decide_eq_false h3]
            refine iteF ?_
            exact stop
    rintro ys H5 ⟨rfl, zs1, rfl, hz1⟩ p10 hp10
    rw [natV_len] at hz1
    walk_at "step"
    have s6 : Same H' (upd H5 p10 (.lst (strV zs1))) := Same.tr s5 (Same.new hp10 _)
    have h10 : (upd H5 p10 (.lst (strV zs1))) p10 = some (.lst (strV zs1)) := upd_same
    have ha6 : (upd H5 p10 (.lst (strV zs1))) pa = some (.lst (natV js)) := by rw [upd_ne (ne_free ha hp10)]; exact ha
    generalize upd H5 p10 (.lst (strV zs1)) = H6 at *
    refine any_compL (xs := natV js) (SqL.of ha6) (fun m ys H'' => H'' = H6 ∧ ∃ zs : List Str, ys = strV zs ∧ zs.length ≤ m) ⟨rfl, [], rfl, Nat.le_refl _⟩ ?_ ?_ ?_ ?_
    · rintro m ys H'' hm ⟨_, zs, rfl, hz⟩
      rw [natV_len] at hm
      rw [strV_len]; exact sl64 (by omega)
    · rintro m ys H'' hm ⟨rfl, _⟩
      exact SqL.of ha6
    · rintro m x ys H'' hx ⟨rfl, zs, rfl, hz⟩
      obtain ⟨j, hj, rfl⟩ := natV_get hx
      have hjc := hjs j (List.mem_of_getElem? hj)
      walk_at "step"
      refine ⟨own, _, rfl, by omega, by omega, fun n5 hn5 => ?_⟩
      walk_at "step"
      by_cases h3 : n5 % 8 = 0
      · rw [decide_eq_true h3]
        refine iteT ?_
        walk_at "step"
        refine v_ixL (SqL.of (s6 _ _ (s3 _ _ (s2 _ _ hN)))) (at_str (by omega)) ?_
        exact ⟨rfl, zs ++ [gd names j], strV_app _ _, by rw [List.length_append, List.length_singleton]; omega⟩
      · rw [decide_eq_false h3]
        refine iteF ?_
        exact ⟨rfl, zs, rfl, by omega⟩
    rintro ys H7 ⟨rfl, zs2, rfl, hz2⟩ p11 hp11
    rw [natV_len] at hz2
    walk_at "step"
    have s7 : Same H' (upd H7 p11 (.lst (strV zs2))) := Same.tr s6 (Same.new hp11 _)
    have h11 : (upd H7 p11 (.lst (strV zs2))) p11 = some (.lst (strV zs2)) := upd_same
    have h10b : (upd H7 p11 (.lst (strV zs2))) p10 = some (.lst (strV zs1)) := by rw [upd_ne (ne_free h10 hp11)]; exact h10
    generalize upd H7 p11 (.lst (strV zs2)) = H8 at *
    refine v_ixL (SqL.of (s7 _ _ (s3 _ _ (s2 _ _ hN)))) (at_str (by omega)) ?_
    walk_at "step"
    refine v_ixL (SqL.of (s7 _ _ (s3 _ _ hpS))) (at_str (by rw [g.ls]; omega)) ?_
    walk_at "step"
    refine v_ixL (SqL.of (s7 _ _ (s3 _ _ hpH))) (at_str (by rw [g.lh]; omega)) ?_
    walk_at "step"
    refine ⟨p10, zs1, rfl, SqL.of h10b, by omega, fun q1 zs1' pe1 _ hq1 => ?_⟩
    walk_at "step"
    refine ⟨q1, _, rfl, .inl ⟨SqL.of upd_same, fun t1 ht1 => ?_⟩⟩
    walk_at "step"
    have sB : Same H8 (upd (upd H8 q1 (.lst (strV zs1'))) t1 (.tup (strV zs1'))) := Same.tr (Same.new hq1 _) (Same.new ht1 _)
    have htt1 : (upd (upd H8 q1 (.lst (strV zs1'))) t1 (.tup (strV zs1'))) t1 = some (.tup (strV zs1')) := upd_same
    generalize upd (upd H8 q1 (.lst (strV zs1'))) t1 (.tup (strV zs1')) = H9 at *
    refine ⟨p11, zs2, rfl, SqL.of (sB _ _ h11), by omega, fun q2 zs2' pe2 _ hq2 => ?_⟩
    walk_at "step"
    refine ⟨q2, _, rfl, .inl ⟨SqL.of upd_same, fun t2 ht2 => ?_⟩⟩
    walk_at "step"
    have sC : Same H9 (upd (upd H9 q2 (.lst (strV zs2'))) t2 (.tup (strV zs2'))) := Same.tr (Same.new hq2 _) (Same.new ht2 _)
    have htt2 : (upd (upd H9 q2 (.lst (strV zs2'))) t2 (.tup (strV zs2'))) t2 = some (.tup (strV zs2')) := upd_same
    have htt1c := sC _ _ htt1
    generalize upd (upd H9 q2 (.lst (strV zs2'))) t2 (.tup (strV zs2')) = H10 at *
    refine ⟨sl64 (by simp), fun tr htr => ?_⟩
    have sD : Same H10 (upd H10 tr (.tup [.str (gd names i), .str (gd S i), .str (gd Hs i), .ref t1, .ref t2])) := Same.new htr _
    have htt : (upd H10 tr (.tup [.str (gd names i), .str (gd S i), .str (gd Hs i), .ref t1, .ref t2])) tr = some (.tup [.str (gd names i), .str (gd S i), .str (gd Hs i), .ref t1, .ref t2]) := upd_same
    have htt1d := sD _ _ htt1c
    have htt2d := sD _ _ htt2
    generalize upd H10 tr (.tup [.str (gd names i), .str (gd S i), .str (gd Hs i), .ref t1, .ref t2]) = H11 at *
    have sE : Same H' H11 := Same.tr s7 (Same.tr sB (Same.tr sC sD))
    walk_at "step"
    refine ⟨.inl ⟨rfl, _, SqL.of (sE _ _ hr)⟩, ?_⟩
    walk_at "step"
    refine ⟨own, 32, rfl, by decide, by decide, fun n9 hn9 => ?_⟩
    walk_at "step"
    have i0 := Int.emod_nonneg n9 (show (i : Int) + 1 ≠ 0 by omega)
    have i1 := Int.emod_lt_of_pos n9 (show (0 : Int) < (i : Int) + 1 by omega)
    have hr11 := sE _ _ hr
    refine v_insert hr11 i0 (by omega) (by rw [sizeLine_eq]; omega) ?_
    walk_at "step"
    have tkF := tupK_lst (ys := insAt us (n9 % ((i : Int) + 1)).toNat (V.ref tr)) hr11
    have dvr : Dv K H11 (Row.da ⟨gd names i, gd S i, gd Hs i, zs1', zs2'⟩) (.ref tr) := dv_tuple.mpr ⟨tr, _, rfl, SqT.of htt, dvs_cons (dv_str.mpr rfl) (dvs_cons (dv_str.mpr rfl) (dvs_cons (dv_str.mpr rfl) (dvs_cons (dv_tuple.mpr ⟨t1, _, rfl, SqT.of htt1d, dvs_sDa.mpr rfl⟩) (dvs_cons (dv_tuple.mpr ⟨t2, _, rfl, SqT.of htt2d, dvs_sDa.mpr rfl⟩) dvs_nil))))⟩
    refine ⟨_, _, _, _, _, _, _, insAt rs (n9 % ((i : Int) + 1)).toNat ⟨gd names i, gd S i, gd Hs i, zs1', zs2'⟩, l ++ [⟨gd names i, gd S i, gd Hs i, zs1', zs2'⟩], rfl, ?_, upd_same, ?_, ?_, by simp [hl], fun j r hj => ?_⟩
    · exact Same.put (Same.tr s3 sE) hpr _
    · rw [← ins_map]
      exact dvs_ins (Dv.tupK tkF _ _ (fix_row _) dvr) _ (Dvs.tupK tkF _ _ (fix_rows _) (Dvs.same sE _ _ dv))
    · exact (ins_perm _ _ _).trans ((List.Perm.cons _ pm).trans (List.perm_append_singleton _ _).symm)
    · by_cases hj2 : j < l.length
      · rw [List.getElem?_append_left hj2] at hj; exact ra j r hj
      · rw [List.getElem?_append_right (by omega)] at hj
        have e0 : j - l.length = 0 := by
          have := (List.getElem?_eq_some_iff.mp hj).1
          simp at this; omega
        rw [e0] at hj
        have : j = i := by omega
        subst this
        cases hj
        exact ⟨rfl, rfl, rfl⟩
  · rintro σ H' ⟨a7, a8, a9, a10, a11, a12, us, rs, l, rfl, s3, hr, dv, pm, hl, ra⟩
    walk_at "step"
    refine ⟨pr, us, rfl, .inl ⟨SqL.of hr, fun t ht => ?_⟩⟩
    exact q t us rs _ (Same.tr sA (Same.tr s3 (Same.new ht _))) upd_same (Dvs.same (Same.new ht _) _ _ dv) (boo_of nN (by omega) (by omega) hc1 g pm (by omega) ra)

end My

namespace My
open PySem L2
variable {K : PySem.W.Frag} {vs : List V} {H : Hp} {Q : VK} {E : XK}
theorem eqv_strs (xs : List Str) : PyData.eqv (.list (sDa xs)) (.list []) = decide (xs = []) := by
  rw [PyData.eqv]
  cases xs with
  | nil => show PyData.eqvAll [] [] = _; rw [PyData.eqvAll]; rfl
  | cons j js => show PyData.eqvAll (.str j :: sDa js) [] = _; rw [PyData.eqvAll]; simp
theorem depth_strs : ∀ xs : List Str, PyData.depthAll (sDa xs) = 0
  | [] => by show PyData.depthAll [] = 0; rw [PyData.depthAll]
  | j :: js => by
    show PyData.depthAll (.str j :: sDa js) = 0
    rw [PyData.depthAll, depth_strs js, PyData.depth]; rfl

theorem Rws.same {v : V} {rs : List Row} {H' : Hp} (h : Rws K H v rs) (s : Same H H') : Rws K H' v rs := by
  obtain ⟨a, vs, rfl, hq, hd⟩ := h
  exact ⟨a, vs, rfl, hq.imp s.sqL s.sqT, Dvs.same s _ _ hd⟩
theorem row_some {rs : List Row} {n : Str} {r : Row} (h : rowOf rs (some n) = some r) : r ∈ rs ∧ r.name = n := by
  refine ⟨List.mem_of_find?_eq_some h, ?_⟩
  have := List.find?_some h
  simpa using this
theorem row_ex {rs : List Row} {n : Str} (h : ∃ r ∈ rs, r.name = n) : ∃ r, rowOf rs (some n) = some r ∧ r ∈ rs ∧ r.name = n := by
  cases e : rowOf rs (some n) with
  | none =>
    obtain ⟨r, hr, hn⟩ := h
    have := List.find?_eq_none.mp e r hr
    simp [hn] at this
  | some r => exact ⟨r, rfl, row_some e⟩
theorem row_is {rs : List Row} (nd : (rs.map (·.name)).Nodup) {r r' : Row} (h : r ∈ rs) (h' : r' ∈ rs) (e : r.name = r'.name) : r = r' := by
  induction rs with
  | nil => cases h
  | cons x l ih =>
    rw [List.map_cons, List.nodup_cons] at nd
    rcases List.mem_cons.mp h with h | h
    · rcases List.mem_cons.mp h' with h' | h'
      · rw [h, h']
      · exact absurd (List.mem_map.mpr ⟨r', h', by rw [← e, h]⟩) nd.1
    · rcases List.mem_cons.mp h' with h' | h'
      · exact absurd (List.mem_map.mpr ⟨r, h, by rw [e, h']⟩) nd.1
      · exact ih nd.2 h h'
theorem rowOf_mem {rs : List Row} (nd : (rs.map (·.name)).Nodup) {r : Row} (h : r ∈ rs) : rowOf rs (some r.name) = some r := by
  obtain ⟨r', e, h', en⟩ := row_ex ⟨r, h, rfl⟩
  rw [e, row_is nd h' h en]
theorem any_forS {g : TG} {tb : TS} {D : Ends} {σ : St} {H0 : Hp} {a : Addr} {xs : List V} (hq : SqL K H0 a xs ∨ SqT K H0 a xs) (s0 : Same H0 H) (Pv : Nat → St → Hp → Prop) (h0 : Pv 0 σ H) (hk : ∀ i σ H', Pv i σ H' → Same H0 H')
    (hs : ∀ i x σ H, xs[i]? = some x → Pv i σ H → g x σ H fun σ2 H2 => tb { D with nx := Pv (i + 1), ct := Pv (i + 1), bk := D.nx } σ2 H2) (hd : ∀ σ H, Pv xs.length σ H → D.nx σ H) :
    ∃ b, V.ref a = .ref b ∧ (((∃ xs, SqL K H b xs) ∧ ForW g tb D σ (Itl K b) H) ∨ ((∃ xs, SqT K H b xs) ∧ ForW g tb D σ (Itt K b) H)) := by
  rcases hq with hq | hq
  · exact ⟨a, rfl, .inl ⟨⟨xs, s0.sqL hq⟩, for_list Pv h0 (fun i σ H' _ p => (hk i σ H' p).sqL hq) hs hd⟩⟩
  · exact ⟨a, rfl, .inr ⟨⟨xs, s0.sqT hq⟩, for_tup Pv h0 (fun i σ H' _ p => (hk i σ H' p).sqT hq) hs hd⟩⟩
def frS (rs : List Row) (n : Str) : Str := if n = ("" : Str) then ("" : Str) else (frameOf rs (some n)).getD ("" : Str)
def wall (rs : List Row) (n : Str) : Bool := match rowOf rs (some n) with | none => false | some r => decide (r.sort ∈ [("room" : Str), ("frame" : Str)])
def near (rs : List Row) (ns : List Str) : List Str := ns.foldl (fun acc n => if wall rs n then [] else acc ++ [n]) []
theorem near_snoc (rs : List Row) (ns : List Str) (n : Str) : near rs (ns ++ [n]) = if wall rs n then [] else near rs ns ++ [n] := by
  unfold near; rw [List.foldl_append]; rfl

theorem near_len (rs : List Row) : ∀ (k : Nat) (ns : List Str), ns.length = k → (near rs ns).length ≤ k
  | 0, ns, h => by rw [List.length_eq_zero_iff.mp h]; exact Nat.le_refl _
  | k + 1, ns, h => by
    have hp : ns ≠ [] := fun e => by rw [e] at h; cases h
    rw [← List.dropLast_concat_getLast hp, near_snoc]
    have := near_len rs k ns.dropLast (by rw [List.length_dropLast]; omega)
    split
    · exact Nat.zero_le _
    · rw [List.length_append, List.length_singleton]; omega
def sp__law_row (K : PySem.W.Frag) : Sp := sp_row_of K
theorem len__law_row (K : PySem.W.Frag) : ∀ vs H Q E, sp__law_row K vs H Q E → vs.length = ["_law_book_here", "_law_name"].length := by rintro vs H Q E ⟨v, n, rs, rfl, _⟩; rfl
def R__law_row (K : PySem.W.Frag) : TS :=
 (tSeq (tFor (iAny K (tVar 0)) (gName 2)
 (tIfS (tTest (tOp (rEqA K) (tOp (rIxA K) (tVar 2) (tC (.int 0))) (tVar 1)))
 (tRet (tVar 2)) tNext))
 (tRet (tC .non)))
theorem rd__law_row (h : sp__law_row K vs H Q E) : R__law_row K { nx := fun _ H' => Q .non H', rt := Q } (start ["_law_book_here", "_law_name", "_law_row_here"] vs) H := by
  exact rd_row_of h

def sp__law_frame (K : PySem.W.Frag) : Sp := fun vs H Q _ => ∃ v n rs, vs = [v, .str n] ∧ Rws K H v rs ∧ Boo rs ∧ Q (.str (frS rs n)) H
theorem len__law_frame (K : PySem.W.Frag) : ∀ vs H Q E, sp__law_frame K vs H Q E → vs.length = ["_law_book_here", "_law_name"].length := by rintro vs H Q E ⟨v, n, rs, rfl, _⟩; rfl
def R__law_frame (K : PySem.W.Frag) : TS :=
 (tSeq (tFor (iAny K (tVar 0)) (gName 2)
 (tIfS (tAnd (tTest (tOp (rEqA K) (tOp (rIxA K) (tVar 2) (tC (.int 2))) (tVar 1))) (tTest (tOp (rNeA K) (tVar 1) (tC (.str ("" : Str))))))
 (tRet (tOp (rIxA K) (tVar 2) (tC (.int 0)))) tNext))
 (tRet (tC (.str ("" : Str)))))
theorem rd__law_frame (h : sp__law_frame K vs H Q E) : R__law_frame K { nx := fun _ H' => Q .non H', rt := Q } (start ["_law_book_here", "_law_name", "_law_row_here"] vs) H := by
  obtain ⟨v, n, rs, rfl, ⟨a, xs, rfl, hq, hd⟩, B, q⟩ := h
  show R__law_frame K _ [some (.ref a), some (.str n), none] H
  unfold R__law_frame
  have hlen : xs.length = rs.length := by have := hd.length; simpa using this
  have ef : ∀ r ∈ rs, n ≠ ("" : Str) → (decide (r.sort = ("frame" : Str)) && decide (some r.host = some n)) = decide (r.host = n) := fun r hr hn => by
    by_cases h : r.host = n
    · have : r.sort = ("frame" : Str) := by
        by_cases hs : r.sort = ("frame" : Str)
        · exact hs
        · exact absurd ((B.noh r hr hs).symm.trans h).symm hn
      rw [decide_eq_true h, decide_eq_true this, decide_eq_true (by rw [h])]; rfl
    · rw [decide_eq_false h, decide_eq_false (fun e => h (Option.some.inj e)), Bool.and_false]
  walk_at "step"
  refine any_for hq (fun i σ H' => H' = H ∧ (∃ w, σ = [some (.ref a), some (.str n), w]) ∧ (n ≠ ("" : Str) → ∀ r ∈ rs.take i, (decide (r.sort = ("frame" : Str)) && decide (some r.host = some n)) = false)) ⟨rfl, ⟨_, rfl⟩, by simp⟩ (fun hl i σ H' _ p => p.1 ▸ hl) (fun ht i σ H' _ p => p.1 ▸ ht) ?_ ?_
  · rintro i x σ H' hx ⟨rfl, ⟨w, rfl⟩, hn⟩
    obtain ⟨d, hd1, hd2⟩ := hd.get' hx
    rw [List.getElem?_map] at hd1
    obtain ⟨r, hr, rfl⟩ := Option.map_eq_some_iff.mp hd1
    have hrm : r ∈ rs := List.mem_of_getElem? hr
    obtain ⟨b, sv, bv, rfl, hb, hsv, hbv⟩ := row_parts hd2
    walk_at "step"
    refine v_ixT hb rfl ?_
    walk_at "step"
    by_cases e : r.host = n
    · rw [decide_eq_true e]; refine iteT ?_
      walk_at "step"
      by_cases h0 : n = ("" : Str)
      · rw [decide_eq_true h0, Bool.not_true]
        refine iteF ?_
        walk_at "step"
        exact ⟨rfl, ⟨_, rfl⟩, fun h => absurd h0 h⟩
      · rw [decide_eq_false h0, Bool.not_false]
        refine iteT ?_
        walk_at "step"
        refine v_ixT hb rfl ?_
        have : frS rs n = r.name := by
          unfold frS
          rw [if_neg h0]
          unfold frameOf
          rw [find_none_snoc hr (hn h0) (by rw [ef r hrm h0, decide_eq_true e])]; rfl
        rw [this] at q; exact q
    · rw [decide_eq_false e]; refine iteF ?_
      refine iteF ?_
      walk_at "step"
      refine ⟨rfl, ⟨_, rfl⟩, fun h0 => take_all hr (hn h0) (by rw [ef r hrm h0, decide_eq_false e])⟩
  · rintro σ H' ⟨rfl, ⟨w, rfl⟩, hn⟩
    walk_at "step"
    have : frS rs n = ("" : Str) := by
      unfold frS
      by_cases h0 : n = ("" : Str)
      · rw [if_pos h0]
      · rw [if_neg h0]
        have : frameOf rs (some n) = none := by
          unfold frameOf
          rw [List.find?_eq_none.mpr]
          · rfl
          · intro r hr
            have h1 := hn h0
            rw [hlen, List.take_length] at h1
            rw [h1 r hr]; exact Bool.false_ne_true
        rw [this]; rfl
    rw [this] at q; exact q

def sp__law_fence (K : PySem.W.Frag) : Sp := fun vs H Q _ => ∃ v n rs, vs = [v, .str n] ∧ Rws K H v rs ∧ ∀ H', Same H H' → Q (.bl (wall rs n)) H'
theorem len__law_fence (K : PySem.W.Frag) : ∀ vs H Q E, sp__law_fence K vs H Q E → vs.length = ["_law_book_here", "_law_name"].length := by rintro vs H Q E ⟨v, n, rs, rfl, _⟩; rfl
def R__law_fence (K : PySem.W.Frag) : TS :=
 (tSeq (tAsg (tCall (sp__law_row K) [] E0 (tCons (tVar 0) (tCons (tVar 1) tNil))) (gName 2))
 (tRet (tAndV (tOp rIsNotA (tVar 2) (tC .non)) (tOp (rInB K false) (tOp (rIxA K) (tVar 2) (tC (.int 1))) (tTup (tCons (tC (.str ("room" : Str))) (tCons (tC (.str ("frame" : Str))) tNil)))))))
theorem rd__law_fence (h : sp__law_fence K vs H Q E) : R__law_fence K { nx := fun _ H' => Q .non H', rt := Q } (start ["_law_book_here", "_law_name", "_law_row_here"] vs) H := by
  obtain ⟨v, n, rs, rfl, hR, q⟩ := h
  show R__law_fence K _ [some v, some (.str n), none] H
  unfold R__law_fence
  walk_at "step"
  refine ⟨v, some n, rs, rfl, hR, fun h => ?_, fun r u h hu => ?_⟩
  · walk_at "step"
    have : wall rs n = false := by unfold wall; rw [h]
    rw [this] at q
    refine iteF ?_
    exact q H (Same.refl _)
  · obtain ⟨b, sv, bv, rfl, hb, hsv, hbv⟩ := row_parts hu
    walk_at "step"
    rw [show decide (V.ref b = V.non) = false by simp, Bool.not_false]
    refine iteT ?_
    walk_at "step"
    refine v_ixT hb rfl ?_
    walk_at "step"
    refine ⟨sl64 (by simp), fun t ht => ?_⟩
    refine .inl (v_in (xs := strV [("room" : Str), ("frame" : Str)]) (.inr (SqT.of upd_same)) rfl (flat_strV _) ?_)
    rw [inV_strV]
    have : wall rs n = decide (r.sort ∈ [("room" : Str), ("frame" : Str)]) := by unfold wall; rw [h]
    rw [this] at q
    exact q _ (Same.new ht _)

def sp__law_near (K : PySem.W.Frag) : Sp := fun vs H Q _ => ∃ v a ys rs, vs = [v, .ref a] ∧ Rws K H v rs ∧ (SqL K H a (strV ys) ∨ SqT K H a (strV ys)) ∧ ys.length ≤ 1000 ∧ ∀ p H', Same H H' → H p = none → H' p = some (.lst (strV (near rs ys))) → Q (.ref p) H'
theorem len__law_near (K : PySem.W.Frag) : ∀ vs H Q E, sp__law_near K vs H Q E → vs.length = ["_law_book_here", "_law_names_here"].length := by rintro vs H Q E ⟨v, a, ys, rs, rfl, _⟩; rfl
def R__law_near (K : PySem.W.Frag) : TS :=
 (tSeq (tAsg (tLst tNil) (gName 2))
 (tSeq (tFor (iAny K (tVar 1)) (gName 3)
 (tSeq (tDrop (tBM K "list" rAppend (tVar 2) (tCons (tVar 3) tNil)))
 (tIfS (tB (tCall (sp__law_fence K) [] E0 (tCons (tVar 0) (tCons (tVar 3) tNil))))
 (tAsg (tLst tNil) (gName 2)) tNext)))
 (tRet (tVar 2))))
theorem rd__law_near (h : sp__law_near K vs H Q E) : R__law_near K { nx := fun _ H' => Q .non H', rt := Q } (start ["_law_book_here", "_law_names_here", "_law_near_here", "_law_name"] vs) H := by
  obtain ⟨v, a, ys, rs, rfl, hR, hq, hl, q⟩ := h
  show R__law_near K _ [some v, some (.ref a), none, none] H
  unfold R__law_near
  walk_at "step"
  refine ⟨sl64 (by simp), fun d hd => ?_⟩
  walk_at "step"
  refine any_forS hq (Same.new hd _) (fun i σ H' => ∃ (p : Addr) (w : Option V), σ = [some v, some (.ref a), some (.ref p), w] ∧ Same H H' ∧ H p = none ∧ H' p = some (.lst (strV (near rs (ys.take i))))) ⟨d, none, rfl, Same.new hd _, hd, upd_same⟩ ?_ ?_ ?_
  · rintro i σ H' ⟨p, w, rfl, s, hp, _⟩
    exact s
  · rintro i x σ H' hx ⟨p, w, rfl, s, hp, hpp⟩
    obtain ⟨y, hy, rfl⟩ := strV_get hx
    have etk : ys.take (i + 1) = ys.take i ++ [y] := by rw [List.take_add_one, hy]; rfl
    have nl := near_len rs (ys.take i).length (ys.take i) rfl
    rw [List.length_take] at nl
    walk_at "step"
    refine ⟨.inl ⟨rfl, _, SqL.of hpp⟩, ?_⟩
    walk_at "step"
    refine v_append hpp (by rw [strV_len, sizeLine_eq]; omega) ?_
    rw [strV_app]
    walk_at "step"
    refine ⟨v, y, rs, rfl, (hR.same (Same.put s hp _)), fun H2 s2 => ?_⟩
    walk_at "step"
    have s3 := Same.tr (Same.put s hp (.lst (strV (near rs (ys.take i) ++ [y])))) s2
    cases hw : wall rs y with
    | true =>
      refine iteT ?_
      walk_at "step"
      refine ⟨sl64 (by simp), fun d2 hd2 => ?_⟩
      walk_at "step"
      exact ⟨d2, _, rfl, Same.tr s3 (Same.new hd2 _), Same.free s3 hd2, by rw [etk, near_snoc, if_pos hw]; exact upd_same⟩
    | false =>
      refine iteF ?_
      walk_at "step"
      exact ⟨p, _, rfl, s3, hp, by rw [etk, near_snoc, if_neg (by rw [hw]; exact Bool.false_ne_true)]; exact s2 _ _ upd_same⟩
  · rintro σ H' ⟨p, w, rfl, s, hp, hpp⟩
    walk_at "step"
    rw [strV_len, List.take_length] at hpp
    exact q p H' s hp hpp

def mayT5 (K : PySem.W.Frag) : TS :=
 (tSeq (tFor (iAny K (tCall (sp__law_near K) [] E0 (tCons (tVar 0) (tCons (tVar 1) tNil)))) (gName 5)
 (tIfS (tOr (tTest (tOp (rInB K false) (tVar 5) (tOp (rIxA K) (tVar 3) (tC (.int 3))))) (tTest (tOp (rInB K false) (tVar 5) (tOp (rIxA K) (tVar 3) (tC (.int 4))))))
 (tRet (tC (.bl false))) tNext))
 (tRet (tC (.bl true))))
def mayT4 (K : PySem.W.Frag) : TS :=
 (tSeq (tIfS (tAnd (tTest (tOp (rNeA K) (tVar 4) (tC (.str ("" : Str))))) (tAnd (tTest (tOp (rEqA K) (tOp (rIxA K) (tCall (sp__law_row K) [] E0 (tCons (tVar 0) (tCons (tVar 4) tNil))) (tC (.int 1))) (tC (.str ("frame" : Str))))) (tTest (tOp (rNeA K) (tOp (rIxA K) (tCall (sp__law_row K) [] E0 (tCons (tVar 0) (tCons (tVar 4) tNil))) (tC (.int 2))) (tVar 2)))))
 (tRet (tC (.bl false))) tNext)
 (mayT5 K))
def mayT3 (K : PySem.W.Frag) : TS :=
 (tSeq (tIfS (tAnd (tTest (tOp (rNeA K) (tCall (sp__law_frame K) [] E0 (tCons (tVar 0) (tCons (tVar 2) tNil))) (tC (.str ("" : Str))))) (tTest (tOp (rNeA K) (tCall (sp__law_frame K) [] E0 (tCons (tVar 0) (tCons (tVar 2) tNil))) (tVar 4))))
 (tRet (tC (.bl false))) tNext)
 (mayT4 K))
def mayT2 (K : PySem.W.Frag) : TS :=
 (tSeq (tIfS (tOr (tTest (tOp rIsA (tVar 3) (tC .non))) (tTest (tOp rGtA (tCB (rLenA K) (tCons (tVar 1) tNil)) (tC (.int 19)))))
 (tRet (tC (.bl false))) tNext)
 (mayT3 K))

theorem row_tup {r : Row} {v : V} (h : Dv K H r.da v) : ∃ b ps pb, v = .ref b ∧ SqT K H b [.str r.name, .str r.sort, .str r.host, .ref ps, .ref pb] ∧ SqT K H ps (strV r.shuts) ∧ SqT K H pb (strV r.bars) := by
  obtain ⟨b, sv, bv, rfl, hb, h1, h2⟩ := row_parts h
  obtain ⟨ps, vs, rfl, q1, d1⟩ := dv_tuple.mp h1
  obtain ⟨pb, ws, rfl, q2, d2⟩ := dv_tuple.mp h2
  rw [dvs_sDa.mp d1] at q1
  rw [dvs_sDa.mp d2] at q2
  exact ⟨b, ps, pb, rfl, hb, q1, q2⟩
section
variable {D : Ends} {v : V} {a b ps pb : Addr} {ys : List Str} {n : Str} {rs : List Row} {r : Row}
theorem may_t5 {a4 a5 : Option V} (hR : Rws K H v rs) (hq : SqL K H a (strV ys) ∨ SqT K H a (strV ys)) (hl : ys.length ≤ 19) (hb : SqT K H b [.str r.name, .str r.sort, .str r.host, .ref ps, .ref pb]) (h1 : SqT K H ps (strV r.shuts)) (h2 : SqT K H pb (strV r.bars)) (q : ∀ b H', Same H H' → D.rt (.bl b) H') :
    mayT5 K D [some v, some (.ref a), some (.str n), some (.ref b), a4, a5] H := by
  unfold mayT5
  walk_at "step"
  refine ⟨v, a, ys, rs, rfl, hR, hq, by omega, fun p H1 s1 hp hp1 => ?_⟩
  refine any_forS (H0 := H1) (.inl (SqL.of hp1)) (Same.refl _) (fun i σ H' => H' = H1 ∧ ∃ w, σ = [some v, some (.ref a), some (.str n), some (.ref b), a4, w]) ⟨rfl, _, rfl⟩ (fun i σ H' p => p.1 ▸ Same.refl _) ?_ ?_
  · rintro i x σ H' hx ⟨rfl, w, rfl⟩
    obtain ⟨y, hy, rfl⟩ := strV_get hx
    walk_at "step"
    refine v_ixT (s1.sqT hb) rfl ?_
    refine .inl (v_in (.inr (s1.sqT h1)) rfl (flat_strV _) ?_)
    walk_at "step"
    cases inV (.str y) (strV r.shuts) with
    | true =>
      refine iteT ?_
      refine iteT ?_
      walk_at "step"
      exact q _ _ s1
    | false =>
      refine iteF ?_
      walk_at "step"
      refine v_ixT (s1.sqT hb) rfl ?_
      refine .inl (v_in (.inr (s1.sqT h2)) rfl (flat_strV _) ?_)
      walk_at "step"
      cases inV (.str y) (strV r.bars) with
      | true =>
        refine iteT ?_
        walk_at "step"
        exact q _ _ s1
      | false =>
        refine iteF ?_
        walk_at "step"
        exact ⟨rfl, _, rfl⟩
  · rintro σ H' ⟨rfl, w, rfl⟩
    walk_at "step"
    exact q _ _ s1
theorem may_t4 {a5 : Option V} {lst : Str} (B : Boo rs) (hR : Rws K H v rs) (hq : SqL K H a (strV ys) ∨ SqT K H a (strV ys)) (hl : ys.length ≤ 19) (hb : SqT K H b [.str r.name, .str r.sort, .str r.host, .ref ps, .ref pb]) (h1 : SqT K H ps (strV r.shuts)) (h2 : SqT K H pb (strV r.bars)) (hlst : lst = ("" : Str) ∨ ∃ r ∈ rs, r.name = lst) (q : ∀ b H', Same H H' → D.rt (.bl b) H') :
    mayT4 K D [some v, some (.ref a), some (.str n), some (.ref b), some (.str lst), a5] H := by
  unfold mayT4
  walk_at "step"
  have fin := fun a4 => may_t5 (n := n) (a4 := a4) (a5 := a5) (D := D) hR hq hl hb h1 h2 q
  by_cases h0 : lst = ("" : Str)
  · rw [decide_eq_true h0, Bool.not_true]
    refine iteF ?_
    refine iteF ?_
    walk_at "step"
    exact fin _
  · rw [decide_eq_false h0, Bool.not_false]
    refine iteT ?_
    obtain ⟨r2, e2, m2, n2⟩ := row_ex (hlst.resolve_left h0)
    walk_at "step"
    refine ⟨v, some lst, rs, rfl, hR, fun e => (by rw [e2] at e; cases e), fun r3 u e hu => ?_⟩
    obtain ⟨b3, p3, p4, rfl, hb3, _, _⟩ := row_tup hu
    walk_at "step"
    refine v_ixT hb3 rfl ?_
    walk_at "step"
    by_cases hf : r3.sort = ("frame" : Str)
    · rw [decide_eq_true hf]
      refine iteT ?_
      walk_at "step"
      refine ⟨v, some lst, rs, rfl, hR, fun e => (by rw [e2] at e; cases e), fun r4 u e hu => ?_⟩
      obtain ⟨b4, p5, p6, rfl, hb4, _, _⟩ := row_tup hu
      walk_at "step"
      refine v_ixT hb4 rfl ?_
      walk_at "step"
      by_cases hh : r4.host = n
      · rw [decide_eq_true hh, Bool.not_true]
        refine iteF ?_
        walk_at "step"
        exact fin _
      · rw [decide_eq_false hh, Bool.not_false]
        refine iteT ?_
        walk_at "step"
        exact q _ _ (Same.refl _)
    · rw [decide_eq_false hf]
      refine iteF ?_
      refine iteF ?_
      walk_at "step"
      exact fin _
theorem may_t3 {a5 : Option V} {lst : Str} (B : Boo rs) (hR : Rws K H v rs) (hq : SqL K H a (strV ys) ∨ SqT K H a (strV ys)) (hl : ys.length ≤ 19) (hb : SqT K H b [.str r.name, .str r.sort, .str r.host, .ref ps, .ref pb]) (h1 : SqT K H ps (strV r.shuts)) (h2 : SqT K H pb (strV r.bars)) (hlst : lst = ("" : Str) ∨ ∃ r ∈ rs, r.name = lst) (q : ∀ b H', Same H H' → D.rt (.bl b) H') :
    mayT3 K D [some v, some (.ref a), some (.str n), some (.ref b), some (.str lst), a5] H := by
  unfold mayT3
  walk_at "step"
  refine ⟨v, n, rs, rfl, hR, B, ?_⟩
  walk_at "step"
  have fin := may_t4 (n := n) (a5 := a5) (D := D) B hR hq hl hb h1 h2 hlst q
  by_cases h0 : frS rs n = ("" : Str)
  · rw [decide_eq_true h0, Bool.not_true]
    refine iteF ?_
    refine iteF ?_
    walk_at "step"
    exact fin
  · rw [decide_eq_false h0, Bool.not_false]
    refine iteT ?_
    walk_at "step"
    refine ⟨v, n, rs, rfl, hR, B, ?_⟩
    walk_at "step"
    by_cases hh : frS rs n = lst
    · rw [decide_eq_true hh, Bool.not_true]
      refine iteF ?_
      walk_at "step"
      exact fin
    · rw [decide_eq_false hh, Bool.not_false]
      refine iteT ?_
      walk_at "step"
      exact q _ _ (Same.refl _)
end
def sp__law_may (K : PySem.W.Frag) : Sp := fun vs H Q _ => ∃ v a ys n rs, vs = [v, .ref a, .str n] ∧ Rws K H v rs ∧ Boo rs ∧ (SqL K H a (strV ys) ∨ SqT K H a (strV ys)) ∧ ys.length ≤ 1000 ∧ (∀ y ∈ ys, ∃ r ∈ rs, r.name = y) ∧ ∀ b H', (b = true → ys.length ≤ 19) → Same H H' → Q (.bl b) H'
theorem len__law_may (K : PySem.W.Frag) : ∀ vs H Q E, sp__law_may K vs H Q E → vs.length = ["_law_book_here", "_law_names_here", "_law_name"].length := by rintro vs H Q E ⟨v, a, ys, n, rs, rfl, _⟩; rfl
def R__law_may (K : PySem.W.Frag) : TS :=
 (tSeq (tAsg (tCall (sp__law_row K) [] E0 (tCons (tVar 0) (tCons (tVar 2) tNil))) (gName 3))
 (tSeq (tAsg (tC (.str ("" : Str))) (gName 4))
 (tSeq (tIfS (tTest (tOp rGtA (tCB (rLenA K) (tCons (tVar 1) tNil)) (tC (.int 0))))
 (tAsg (tOp (rIxA K) (tVar 1) (tUn (rU fun i => .int (-i)) (tC (.int 1)))) (gName 4)) tNext)
 (mayT2 K))))
theorem rd__law_may (h : sp__law_may K vs H Q E) : R__law_may K { nx := fun _ H' => Q .non H', rt := Q } (start ["_law_book_here", "_law_names_here", "_law_name", "_law_row_here", "_law_last", "_law_other"] vs) H := by
  obtain ⟨v, a, ys, n, rs, rfl, hR, B, hq, hl, hy, q⟩ := h
  show R__law_may K _ [some v, some (.ref a), some (.str n), none, none, none] H
  unfold R__law_may
  walk_at "step"
  have t2 : ∀ (u : V) (lst : Str), (u = .non ∨ ∃ b r ps pb, u = .ref b ∧ SqT K H b [.str (Row.name r), .str r.sort, .str r.host, .ref ps, .ref pb] ∧ SqT K H ps (strV r.shuts) ∧ SqT K H pb (strV r.bars)) → (lst = ("" : Str) ∨ ∃ r ∈ rs, r.name = lst) → mayT2 K { nx := fun _ H' => Q .non H', rt := Q } [some v, some (.ref a), some (.str n), some u, some (.str lst), none] H := by
    intro u lst hu hlst
    unfold mayT2
    walk_at "step"
    rcases hu with rfl | ⟨b, r, ps, pb, rfl, hb, h1, h2⟩
    · rw [decide_eq_true rfl]
      refine iteT ?_
      refine iteT ?_
      walk_at "step"
      exact q _ _ (fun h => by cases h) (Same.refl _)
    · rw [show decide (V.ref b = V.non) = false by simp]
      refine iteF ?_
      walk_at "step"
      refine v_lenQ hq ?_
      rw [strV_len]
      walk_at "step"
      by_cases h19 : (19 : Int) < (ys.length : Int)
      · rw [decide_eq_true h19]
        refine iteT ?_
        walk_at "step"
        exact q _ _ (fun h => by cases h) (Same.refl _)
      · rw [decide_eq_false h19]
        refine iteF ?_
        walk_at "step"
        exact may_t3 B hR hq (by omega) hb h1 h2 hlst fun b H' s => q b H' (fun _ => by omega) s
  have t1 : ∀ u : V, (u = .non ∨ ∃ b r ps pb, u = .ref b ∧ SqT K H b [.str (Row.name r), .str r.sort, .str r.host, .ref ps, .ref pb] ∧ SqT K H ps (strV r.shuts) ∧ SqT K H pb (strV r.bars)) →
      (if decide ((0 : Int) < (ys.length : Int)) = true then (tAsg (tOp (rIxA K) (tVar 1) (tUn (rU fun i => .int (-i)) (tC (.int 1)))) (gName 4)) { nx := mayT2 K { nx := fun _ H' => Q .non H', rt := Q }, rt := Q } [some v, some (.ref a), some (.str n), some u, some (.str ("" : Str)), none] H else tNext { nx := mayT2 K { nx := fun _ H' => Q .non H', rt := Q }, rt := Q } [some v, some (.ref a), some (.str n), some u, some (.str ("" : Str)), none] H) := by
    intro u hu
    by_cases h0 : (0 : Int) < (ys.length : Int)
    · rw [decide_eq_true h0]
      refine iteT ?_
      walk_at "step"
      refine ⟨1, rfl, ?_⟩
      have e1 : (strV ys)[(strV ys).length - 1]? = some (.str (gd ys (ys.length - 1))) := by
        rw [strV_len]; unfold strV; rw [List.getElem?_map, gd_get (by omega)]; rfl
      have e2 := atI_end (by rw [strV_len]; omega) e1
      have hy2 := hy _ (gd_mem (l := ys) (i := ys.length - 1) (by omega))
      rcases hq with hq | hq
      · refine v_ixL hq e2 ?_
        walk_at "step"
        exact t2 _ _ hu (.inr hy2)
      · refine v_ixT hq e2 ?_
        walk_at "step"
        exact t2 _ _ hu (.inr hy2)
    · rw [decide_eq_false h0]
      refine iteF ?_
      walk_at "step"
      exact t2 _ _ hu (.inl rfl)
  refine ⟨v, some n, rs, rfl, hR, fun h => ?_, fun r u h hu => ?_⟩
  · walk_at "step"
    refine v_lenQ hq ?_
    rw [strV_len]
    walk_at "step"
    exact t1 _ (.inl rfl)
  · obtain ⟨b, ps, pb, rfl, hb, h1, h2⟩ := row_tup hu
    walk_at "step"
    refine v_lenQ hq ?_
    rw [strV_len]
    walk_at "step"
    exact t1 _ (.inr ⟨b, r, ps, pb, rfl, hb, h1, h2⟩)

end My

namespace My
open PySem L2
variable {K : PySem.W.Frag} {vs : List V} {H : Hp} {Q : VK} {E : XK}
def stackIn2 (K : PySem.W.Frag) : TS :=
 (tIfS (tAnd (tTest (tOp (rNeA K) (tOp (rIxA K) (tVar 6) (tC (.int 1))) (tC (.str ("bare" : Str))))) (tB (tCall (sp__law_may K) [] E0 (tCons (tVar 2) (tCons (tVar 3) (tCons (tOp (rIxA K) (tVar 6) (tC (.int 0))) tNil))))))
 (tDrop (tBM K "list" rAppend (tVar 3) (tCons (tOp (rIxA K) (tVar 6) (tC (.int 0))) tNil))) tNext)
def stackIn1 (K : PySem.W.Frag) : TS :=
 (tSeq (tIfS (tAnd (tTest (tOp (rNeA K) (tVar 3) (tLst tNil))) (tAnd (tTest (tOp (rEqA K) (tOp (rIxA K) (tCall (sp__law_row K) [] E0 (tCons (tVar 2) (tCons (tOp (rIxA K) (tVar 3) (tUn (rU fun i => .int (-i)) (tC (.int 1)))) tNil))) (tC (.int 1))) (tC (.str ("frame" : Str))))) (tTest (tOp rGtA (tOp (rI (fun _ j => 0 < j) fun i j => .int (i % j)) (tOp (rI CDiv fun i j => .int (i / j)) (tVar 5) (tC (.int 64))) (tC (.int 4))) (tC (.int 0))))))
 (tAsg (tCall (sp__law_row K) [] E0 (tCons (tVar 2) (tCons (tOp (rIxA K) (tCall (sp__law_row K) [] E0 (tCons (tVar 2) (tCons (tOp (rIxA K) (tVar 3) (tUn (rU fun i => .int (-i)) (tC (.int 1)))) tNil))) (tC (.int 2))) tNil))) (gName 6)) tNext)
 (stackIn2 K))
def stackCut (K : PySem.W.Frag) : TS :=
 (tIfS (tTest (tOp (rEqA K) (tOp (rI (fun _ j => 0 < j) fun i j => .int (i % j)) (tOp (rI CDiv fun i j => .int (i / j)) (tVar 5) (tC (.int 1024))) (tC (.int 8))) (tC (.int 0))))
 (tAsg (tSl (rSlA K) (tVar 3) tNoPart (tPart (tOp (rI (fun _ j => 0 < j) fun i j => .int (i % j)) (tOp (rI CDiv fun i j => .int (i / j)) (tVar 5) (tC (.int 8192))) (tOp (rAddA K) (tCB (rLenA K) (tCons (tVar 3) tNil)) (tC (.int 1)))))) (gName 3)) tNext)

theorem Same.with {H H' : Hp} {p : Addr} {o : HO} (s : Same H H') (h : H' p = some o) : Same (upd H p o) H' := fun c u e => by
  by_cases z : c = p
  · subst z; rw [upd_same] at e; rw [← e]; exact h
  · rw [upd_ne z] at e; exact s c u e
/-- open ones that come of a book -/
structure Stk (rs : List Row) (ys : List Str) : Prop where
  l : ys.length ≤ 20
  m : ∀ y ∈ ys, ∃ r ∈ rs, r.name = y
theorem Stk.app {rs : List Row} {ys : List Str} {y : Str} (h : Stk rs ys) (hl : ys.length ≤ 19) (hy : ∃ r ∈ rs, r.name = y) : Stk rs (ys ++ [y]) := by
  refine ⟨by rw [List.length_append, List.length_singleton]; omega, fun z hz => ?_⟩
  rcases List.mem_append.mp hz with h' | h'
  · exact h.m z h'
  · rw [List.mem_singleton.mp h']; exact hy
section
variable {D : Ends} {H0 : Hp} {sc t pn : Addr} {rs : List Row} {us : List V} {ys : List Str} {r : Row} {s1 : Option V} {cell : Option V} {num times k : Int}
theorem stack_in2 (hR : Rws K H0 (.ref t) rs) (B : Boo rs) (s0 : Same H0 H) (hp0 : H0 pn = none) (hp : H pn = some (.lst (strV ys))) (hk : Stk rs ys) (hr : r ∈ rs) {u : V} (hu : Dv K H r.da u)
    (q : ∀ ys' H', Same H0 H' → H' pn = some (.lst (strV ys')) → Stk rs ys' → TupK H H' → D.nx [some (.ref sc), s1, some (.ref t), some (.ref pn), cell, some (.int num), some u, some (.int times), some (.int k)] H') :
    stackIn2 K D [some (.ref sc), s1, some (.ref t), some (.ref pn), cell, some (.int num), some u, some (.int times), some (.int k)] H := by
  unfold stackIn2
  obtain ⟨b, ps, pb, rfl, hb, _, _⟩ := row_tup hu
  walk_at "step"
  refine v_ixT hb rfl ?_
  walk_at "step"
  by_cases h0 : r.sort = ("bare" : Str)
  · rw [decide_eq_true h0, Bool.not_true]
    refine iteF ?_
    refine iteF ?_
    walk_at "step"
    exact q ys H s0 hp hk (TupK.refl _)
  · rw [decide_eq_false h0, Bool.not_false]
    refine iteT ?_
    walk_at "step"
    refine v_ixT hb rfl ?_
    walk_at "step"
    refine ⟨.ref t, pn, ys, r.name, rs, rfl, hR.same s0, B, .inl (SqL.of hp), by have := hk.l; omega, hk.m, fun c H1 hc sA => ?_⟩
    walk_at "step"
    cases c with
    | false =>
      refine iteF ?_
      walk_at "step"
      exact q ys H1 (Same.tr s0 sA) (sA _ _ hp) hk sA.tupK
    | true =>
      refine iteT ?_
      walk_at "step"
      refine ⟨.inl ⟨rfl, _, SqL.of (sA _ _ hp)⟩, ?_⟩
      walk_at "step"
      refine v_ixT (sA.sqT hb) rfl ?_
      walk_at "step"
      refine v_append (sA _ _ hp) (by rw [strV_len, sizeLine_eq]; have := hk.l; omega) ?_
      rw [strV_app]
      exact q (ys ++ [r.name]) _ (Same.put (Same.tr s0 sA) hp0 _) upd_same (hk.app (hc rfl) ⟨r, hr, rfl⟩) (sA.tupK.trans (tupK_lst (sA _ _ hp)))
theorem stack_in1 (hR : Rws K H0 (.ref t) rs) (B : Boo rs) (s0 : Same H0 H) (hp0 : H0 pn = none) (hp : H pn = some (.lst (strV ys))) (hk : Stk rs ys) (hr : r ∈ rs) {u : V} (hu : Dv K H r.da u)
    (q : ∀ ys' r' u' H', Same H0 H' → H' pn = some (.lst (strV ys')) → Stk rs ys' → r' ∈ rs → Dv K H' (Row.da r') u' → D.nx [some (.ref sc), s1, some (.ref t), some (.ref pn), cell, some (.int num), some u', some (.int times), some (.int k)] H') :
    stackIn1 K D [some (.ref sc), s1, some (.ref t), some (.ref pn), cell, some (.int num), some u, some (.int times), some (.int k)] H := by
  unfold stackIn1
  walk_at "step"
  refine ⟨sl64 (by simp), fun e he => ?_⟩
  have sE : Same H0 (upd H e (.lst [])) := Same.tr s0 (Same.new he _)
  have hpE : (upd H e (.lst [])) pn = some (.lst (strV ys)) := by rw [upd_ne (ne_free hp he)]; exact hp
  refine v_neD (d := .list (sDa ys)) (e := .list []) (dv_list.mpr ⟨pn, _, rfl, SqL.of hpE, dvs_sDa.mpr rfl⟩) (dv_list.mpr ⟨e, [], rfl, SqL.of upd_same, dvs_nil⟩) (by rw [PyData.depth, depth_strs]; decide) ?_
  rw [eqv_strs]
  have hu1 : Dv K (upd H e (.lst [])) r.da u := Dv.same (Same.new he _) _ _ hu
  generalize upd H e (.lst []) = H1 at *
  walk_at "step"
  have plain : stackIn2 K D [some (.ref sc), s1, some (.ref t), some (.ref pn), cell, some (.int num), some u, some (.int times), some (.int k)] H1 :=
    stack_in2 hR B sE hp0 hpE hk hr hu1 fun ys' H' a b c tk => q ys' r u H' a b c hr (Dv.tupK tk _ _ (fix_row _) hu1)
  by_cases h0 : ys = []
  · rw [decide_eq_true h0, Bool.not_true]
    refine iteF ?_
    refine iteF ?_
    walk_at "step"
    exact plain
  · rw [decide_eq_false h0, Bool.not_false]
    refine iteT ?_
    have yl : 0 < ys.length := List.length_pos_iff.mpr h0
    have e1 : (strV ys)[(strV ys).length - 1]? = some (.str (gd ys (ys.length - 1))) := by
      rw [strV_len]; unfold strV; rw [List.getElem?_map, gd_get (by omega)]; rfl
    have e2 := atI_end (by rw [strV_len]; omega) e1
    obtain ⟨r2, er2, m2, n2⟩ := row_ex (hk.m _ (gd_mem (l := ys) (i := ys.length - 1) (by omega)))
    walk_at "step"
    refine ⟨1, rfl, ?_⟩
    refine v_ixL (SqL.of hpE) e2 ?_
    walk_at "step"
    refine ⟨.ref t, some _, rs, rfl, hR.same sE, fun e => (by rw [er2] at e; cases e), fun r3 u3 e hu3 => ?_⟩
    rw [er2] at e
    injection e with e
    subst e
    obtain ⟨b3, p3, p4, rfl, hb3, _, _⟩ := row_tup hu3
    walk_at "step"
    refine v_ixT hb3 rfl ?_
    walk_at "step"
    by_cases hf : r2.sort = ("frame" : Str)
    · rw [decide_eq_true hf]
      refine iteT ?_
      walk_at "step"
      by_cases hg : (0 : Int) < num / 64 % 4
      · rw [decide_eq_true hg]
        refine iteT ?_
        walk_at "step"
        refine ⟨1, rfl, ?_⟩
        refine v_ixL (SqL.of hpE) e2 ?_
        walk_at "step"
        refine ⟨.ref t, some _, rs, rfl, hR.same sE, fun e => (by rw [er2] at e; cases e), fun r3 u3 e hu3 => ?_⟩
        rw [er2] at e
        injection e with e
        subst e
        obtain ⟨b4, p5, p6, rfl, hb4, _, _⟩ := row_tup hu3
        walk_at "step"
        refine v_ixT hb4 rfl ?_
        walk_at "step"
        obtain ⟨rk, _, hrk⟩ := B.rk
        obtain ⟨⟨r5, hr5, en5, _⟩, _⟩ := hrk _ m2 hf
        obtain ⟨r6, er6, m6, n6⟩ := row_ex ⟨r5, hr5, en5⟩
        refine ⟨.ref t, some _, rs, rfl, hR.same sE, fun e => (by rw [er6] at e; cases e), fun r7 u7 e hu7 => ?_⟩
        rw [er6] at e
        injection e with e
        subst e
        walk_at "step"
        exact stack_in2 hR B sE hp0 hpE hk m6 hu7 fun ys' H' a b c tk => q ys' r6 u7 H' a b c m6 (Dv.tupK tk _ _ (fix_row _) hu7)
      · rw [decide_eq_false hg]
        refine iteF ?_
        walk_at "step"
        exact plain
    · rw [decide_eq_false hf]
      refine iteF ?_
      refine iteF ?_
      walk_at "step"
      exact plain
end

theorem stack_cut {D : Ends} {H0 : Hp} {sc t pn : Addr} {rs : List Row} {ys : List Str} {s1 cell a6 a7 a8 : Option V} {num : Int} (s0 : Same H0 H) (hp0 : H0 pn = none) (hp : H pn = some (.lst (strV ys))) (hk : Stk rs ys)
    (q : ∀ pn' ys' H', Same H0 H' → H0 pn' = none → H' pn' = some (.lst (strV ys')) → Stk rs ys' → D.nx [some (.ref sc), s1, some (.ref t), some (.ref pn'), cell, some (.int num), a6, a7, a8] H') :
    stackCut K D [some (.ref sc), s1, some (.ref t), some (.ref pn), cell, some (.int num), a6, a7, a8] H := by
  unfold stackCut
  walk_at "step"
  by_cases h0 : num / 1024 % 8 = 0
  · rw [decide_eq_true h0]
    refine iteT ?_
    walk_at "step"
    refine v_lenQ (.inl (SqL.of hp)) ?_
    rw [strV_len]
    walk_at "step"
    refine .inr (.inr ⟨pn, _, rfl, SqL.of hp, fun p2 hp2 => ?_⟩)
    have i0 := Int.emod_nonneg (num / 8192) (show ((ys.length : Nat) : Int) + 1 ≠ 0 by omega)
    obtain ⟨u, hu⟩ := Int.eq_ofNat_of_zero_le i0
    have ec : cutV (strV ys) none (some (num / 8192 % (((ys.length : Nat) : Int) + 1))) = strV (ys.take u) := by
      unfold cutV
      rw [hu, HT.sIx_nat]
      show ((strV ys).drop 0).take (min u (strV ys).length - 0) = _
      rw [List.drop_zero, Nat.sub_zero]
      unfold strV
      rw [List.map_take, List.length_map]
      by_cases hh : u ≤ ys.length
      · rw [Nat.min_eq_left hh]
      · rw [Nat.min_eq_right (by omega), List.take_of_length_le (by rw [List.length_map]; exact Nat.le_refl _), List.take_of_length_le (by rw [List.length_map]; omega)]
    rw [ec]
    walk_at "step"
    exact q p2 (ys.take u) _ (Same.tr s0 (Same.new hp2 _)) (Same.free s0 hp2) upd_same ⟨by rw [List.length_take]; have := hk.l; omega, fun y hy => hk.m y (List.mem_of_mem_take hy)⟩
  · rw [decide_eq_false h0]
    refine iteF ?_
    walk_at "step"
    exact q pn ys H s0 hp0 hp hk
def sp__law_stack (K : PySem.W.Frag) : Sp := fun vs H Q _ => ∃ (sc t : Addr) (ns : List Int) (st : Int) (us : List V) (rs : List Row), vs = [.ref sc, .int st, .ref t] ∧ SqL K H sc (ns.map V.int) ∧ ns.length ≤ 63 ∧ SqT K H t us ∧ Dvs K H (rs.map Row.da) us ∧ Boo rs ∧ ∀ (p : Addr) (ys : List Str) (H' : Hp), Same H H' → SqT K H' p (strV ys) → Stk rs ys → Q (.ref p) H'
theorem len__law_stack (K : PySem.W.Frag) : ∀ vs H Q E, sp__law_stack K vs H Q E → vs.length = ["_law_script", "_law_start", "_law_book_here"].length := by rintro vs H Q E ⟨sc, t, ns, st, us, rs, rfl, _⟩; rfl
def R__law_stack (K : PySem.W.Frag) : TS :=
 (tSeq (tAsg (tLst tNil) (gName 3))
 (tSeq (tFor (iAny K (tSl (rSlA K) (tVar 0) (tPart (tVar 1)) (tPart (tOp (rAddA K) (tVar 1) (tC (.int 24)))))) (gName 4)
 (tSeq (tAsg (tCall (sp__law_mixed K) [] E0 (tCons (tVar 4) (tCons (tC (.int 5)) tNil))) (gName 5))
 (tSeq (tAsg (tOp (rIxA K) (tVar 2) (tOp (rI (fun _ j => 0 < j) fun i j => .int (i % j)) (tVar 5) (tCB (rLenA K) (tCons (tVar 2) tNil)))) (gName 6))
 (tSeq (tAsg (tOp (rIxA K) (tLst (tCons (tC (.int 1)) (tCons (tC (.int 1)) (tCons (tC (.int 1)) (tCons (tC (.int 20)) tNil))))) (tOp (rI (fun _ j => 0 < j) fun i j => .int (i % j)) (tOp (rI CDiv fun i j => .int (i / j)) (tVar 5) (tC (.int 16))) (tC (.int 4)))) (gName 7))
 (tSeq (tFor (iRng1 (tCons (tVar 7) tNil)) (gName 8)
 (stackIn1 K))
 (stackCut K))))))
 (tRet (tCB (rTupleA K) (tCons (tVar 3) tNil)))))
theorem rd__law_stack (h : sp__law_stack K vs H Q E) : R__law_stack K { nx := fun _ H' => Q .non H', rt := Q } (start ["_law_script", "_law_start", "_law_book_here", "_law_names_here", "_law_cell", "_law_number", "_law_row_here", "_law_times", "_law_k"] vs) H := by
  obtain ⟨sc, t, ns, st, us, rs, rfl, hS, hnl, ht, dv, B, q⟩ := h
  show R__law_stack K _ [some (.ref sc), some (.int st), some (.ref t), none, none, none, none, none, none] H
  unfold R__law_stack
  have hR : Rws K H (.ref t) rs := ⟨t, us, rfl, .inr ht, dv⟩
  have ul : us.length = rs.length := by have := dv.length; simpa using this
  walk_at "step"
  refine ⟨sl64 (by simp), fun d hd => ?_⟩
  walk_at "step"
  refine .inr (.inr ⟨sc, _, rfl, (Same.new hd _).sqL hS, fun pc hpc => ?_⟩)
  have sA : Same H (upd (upd H d (.lst [])) pc (.lst (cutV (ns.map V.int) (some st) (some (st + 24))))) := Same.tr (Same.new hd _) (Same.new hpc _)
  have hdA : (upd (upd H d (.lst [])) pc (.lst (cutV (ns.map V.int) (some st) (some (st + 24))))) d = some (.lst []) := by rw [upd_ne (ne_free upd_same hpc)]; exact upd_same
  have hpA : (upd (upd H d (.lst [])) pc (.lst (cutV (ns.map V.int) (some st) (some (st + 24))))) pc = some (.lst (cutV (ns.map V.int) (some st) (some (st + 24)))) := upd_same
  generalize upd (upd H d (.lst [])) pc (.lst (cutV (ns.map V.int) (some st) (some (st + 24)))) = HA at *
  have hpc0 : H pc = none := Same.free (Same.new hd _) hpc
  have ndc : d ≠ pc := fun e => by rw [← e, upd_same] at hpc; cases hpc
  refine any_forL (xs := cutV (ns.map V.int) (some st) (some (st + 24))) (SqL.of hpA) (fun i σ H' => ∃ (pn : Addr) (a4 a5 a6 a7 a8 : Option V) (ys : List Str), σ = [some (.ref sc), some (.int st), some (.ref t), some (.ref pn), a4, a5, a6, a7, a8] ∧ Same H H' ∧ H pn = none ∧ pn ≠ pc ∧ H' pc = some (.lst (cutV (ns.map V.int) (some st) (some (st + 24)))) ∧ H' pn = some (.lst (strV ys)) ∧ Stk rs ys) ?_ ?_ ?_ ?_
  · exact ⟨d, none, none, none, none, none, [], rfl, sA, hd, ndc, hpA, hdA, ⟨Nat.zero_le _, by simp⟩⟩
  · rintro i σ H' hi ⟨pn, a4, a5, a6, a7, a8, ys, rfl, s1, hpn0, npc, hpc1, hpn1, hk⟩
    exact SqL.of hpc1
  · rintro i x σ H' hx ⟨pn, a4, a5, a6, a7, a8, ys, rfl, s1, hpn0, npc, hpc1, hpn1, hk⟩
    obtain ⟨n, rfl⟩ : ∃ n, x = .int n := by
      have hm := List.mem_of_getElem? hx
      unfold cutV at hm
      obtain ⟨n, _, e⟩ := List.mem_map.mp (List.mem_of_mem_drop (List.mem_of_mem_take hm))
      exact ⟨n, e.symm⟩
    walk_at "step"
    refine ⟨n, 5, rfl, by decide, by decide, fun num hnum => ?_⟩
    walk_at "step"
    refine v_lenQ (.inr (s1.sqT ht)) ?_
    refine v_mod (by have := B.l1; omega) ?_
    have i0 := Int.emod_nonneg num (show ((us.length : Nat) : Int) ≠ 0 by have := B.l1; omega)
    have i1 := Int.emod_lt_of_pos num (show (0 : Int) < ((us.length : Nat) : Int) by have := B.l1; omega)
    obtain ⟨u, hu⟩ := Int.eq_ofNat_of_zero_le i0
    rw [hu]
    have hul : u < us.length := by omega
    have eu : us[u]? = some us[u] := List.getElem?_eq_getElem hul
    obtain ⟨dd, e1, dvx⟩ := dv.get' eu
    rw [List.getElem?_map] at e1
    obtain ⟨r, hr, rfl⟩ := Option.map_eq_some_iff.mp e1
    refine v_ixT (s1.sqT ht) (atI_nat eu) ?_
    walk_at "step"
    refine ⟨sl64 (by simp), fun t4 ht4 => ?_⟩
    walk_at "step"
    have j0 := Int.emod_nonneg (num / 16) (show (4 : Int) ≠ 0 by decide)
    have j1 := Int.emod_lt_of_pos (num / 16) (show (0 : Int) < 4 by decide)
    obtain ⟨times, htm, hta, htb⟩ : ∃ tm : Int, atI [V.int 1, V.int 1, V.int 1, V.int 20] (num / 16 % 4) = some (.int tm) ∧ 0 ≤ tm ∧ tm ≤ 20 := by
      obtain ⟨w, hw⟩ := Int.eq_ofNat_of_zero_le j0
      rw [hw]
      have : w = 0 ∨ w = 1 ∨ w = 2 ∨ w = 3 := by omega
      rcases this with h | h | h | h <;> subst h
      · exact ⟨1, rfl, by decide, by decide⟩
      · exact ⟨1, rfl, by decide, by decide⟩
      · exact ⟨1, rfl, by decide, by decide⟩
      · exact ⟨20, rfl, by decide, by decide⟩
    refine v_ixL (SqL.of upd_same) htm ?_
    walk_at "step"
    have s2 : Same H (upd H' t4 (.lst [.int 1, .int 1, .int 1, .int 20])) := Same.tr s1 (Same.new ht4 _)
    have hpn2 : (upd H' t4 (.lst [.int 1, .int 1, .int 1, .int 20])) pn = some (.lst (strV ys)) := by rw [upd_ne (ne_free hpn1 ht4)]; exact hpn1
    have hpc2 : (upd H' t4 (.lst [.int 1, .int 1, .int 1, .int 20])) pc = some (.lst (cutV (ns.map V.int) (some st) (some (st + 24)))) := by rw [upd_ne (ne_free hpc1 ht4)]; exact hpc1
    have dvx2 := Dv.same s2 _ _ dvx
    generalize upd H' t4 (.lst [.int 1, .int 1, .int 1, .int 20]) = H2 at *
    refine rng1_for hta (by omega) (fun m σ H'' => ∃ (a8 : Option V) (ys : List Str) (r : Row) (u : V), σ = [some (.ref sc), some (.int st), some (.ref t), some (.ref pn), some (.int n), some (.int num), some u, some (.int times), a8] ∧ Same H H'' ∧ H'' pc = some (.lst (cutV (ns.map V.int) (some st) (some (st + 24)))) ∧ H'' pn = some (.lst (strV ys)) ∧ Stk rs ys ∧ r ∈ rs ∧ Dv K H'' r.da u) ⟨_, ys, r, _, rfl, s2, hpc2, hpn2, hk, List.mem_of_getElem? hr, dvx2⟩ ?_ ?_
    · rintro m σ H'' hm ⟨a8, ys, r, u, rfl, s3, hpc3, hpn3, hk3, hr3, hu3⟩
      walk_at "step"
      refine stack_in1 (H0 := upd H pc (.lst (cutV (ns.map V.int) (some st) (some (st + 24))))) (hR.same (Same.new hpc0 _)) B (Same.with s3 hpc3) (by rw [upd_ne npc]; exact hpn0) hpn3 hk3 hr3 hu3 ?_
      intro ys' r' u' H4 s4 h4 k4 r4 d4
      exact ⟨_, ys', r', u', rfl, Same.tr (Same.new hpc0 _) s4, s4 _ _ upd_same, h4, k4, r4, d4⟩
    · rintro σ H'' ⟨a8, ys, r, u, rfl, s3, hpc3, hpn3, hk3, hr3, hu3⟩
      walk_at "step"
      refine stack_cut (H0 := upd H pc (.lst (cutV (ns.map V.int) (some st) (some (st + 24))))) (Same.with s3 hpc3) (by rw [upd_ne npc]; exact hpn0) hpn3 hk3 ?_
      intro pn' ys' H4 s4 h40 h4 k4
      have nn : pn' ≠ pc := fun e => by rw [e, upd_same] at h40; cases h40
      exact ⟨pn', _, _, _, _, _, ys', rfl, Same.tr (Same.new hpc0 _) s4, Same.free (Same.new hpc0 _) h40, nn, s4 _ _ upd_same, h4, k4⟩
  · rintro σ H' ⟨pn, a4, a5, a6, a7, a8, ys, rfl, s1, hpn0, npc, hpc1, hpn1, hk⟩
    walk_at "step"
    refine ⟨pn, _, rfl, .inl ⟨SqL.of hpn1, fun p hp => ?_⟩⟩
    exact q p ys _ (Same.tr s1 (Same.new hp _)) (SqT.of upd_same) hk

end My

namespace My
open PySem L2
variable {K : PySem.W.Frag} {vs : List V} {H : Hp} {Q : VK} {E : XK}

/-! ### going down from frame to host -/
def downs (rs : List Row) : Nat → Option Str → List Str
  | 0, _ => []
  | k + 1, n => match hostOf rs n with
    | none => []
    | some y => y :: downs rs k (some y)
/-- hosts lie higher -/
def Rise (rs : List Row) (rk : Str → Nat) : Prop := ∀ x y, hostOf rs (some x) = some y → rk x < rk y ∧ rk y < 12
theorem Boo.rise {rs : List Row} (B : Boo rs) : ∃ rk, Rise rs rk := by
  obtain ⟨rk, h1, h2⟩ := B.rk
  refine ⟨rk, fun x y e => ?_⟩
  unfold hostOf at e
  cases er : rowOf rs (some x) with
  | none => rw [er] at e; cases e
  | some r =>
    rw [er] at e
    obtain ⟨hr, hn⟩ := row_some er
    by_cases hf : r.sort = ("frame" : Str)
    · have e : some r.host = some y := by simpa [hf] using e
      injection e with e
      obtain ⟨⟨r', hr', en, _⟩, h⟩ := h2 r hr hf
      subst e hn
      exact ⟨h, by rw [← en]; exact h1 r' hr'⟩
    · simp [hf] at e
theorem downs_more {rs : List Row} {rk : Str → Nat} (f : Rise rs rk) : ∀ (k m : Nat) (x : Str), 12 - rk x ≤ k → k ≤ m → downs rs m (some x) = downs rs k (some x)
  | k, 0, x, h, hm => by have : k = 0 := by omega
                         rw [this]
  | k, m + 1, x, h, hm => by
    cases e : hostOf rs (some x) with
    | none =>
      have e1 : ∀ k, downs rs k (some x) = [] := fun k => by cases k with | zero => rfl | succ k => rw [downs, e]
      rw [e1, e1]
    | some y =>
      obtain ⟨hy, hy2⟩ := f x y e
      cases k with
      | zero => omega
      | succ k =>
        rw [downs, e, downs, e]
        show y :: downs rs m (some y) = y :: downs rs k (some y)
        rw [downs_more f k m y (by omega) (by omega)]
/-- all hosts of a name -/
def hostsOf (rs : List Row) (x : Str) : List Str := downs rs 12 (some x)
theorem downs_len (rs : List Row) : ∀ (k : Nat) (n : Option Str), (downs rs k n).length ≤ k
  | 0, _ => Nat.le_refl _
  | k + 1, n => by
    rw [downs]
    split
    · exact Nat.zero_le _
    · rw [List.length_cons]; have := downs_len rs k; exact Nat.succ_le_succ (this _)
theorem hosts_none {rs : List Row} {x : Str} (e : hostOf rs (some x) = none) : hostsOf rs x = [] := by
  unfold hostsOf; rw [downs, e]
theorem hosts_some {rs : List Row} {rk : Str → Nat} (f : Rise rs rk) {x y : Str} (e : hostOf rs (some x) = some y) : hostsOf rs x = y :: hostsOf rs y := by
  unfold hostsOf
  rw [downs, e]
  show y :: downs rs 11 (some y) = y :: downs rs 12 (some y)
  obtain ⟨h1, h2⟩ := f x y e
  rw [downs_more f 11 12 y (by omega) (by omega)]
theorem while_raw {c : TT} {tb : TS} {D : Ends} {σ : St} (Pv : St → Hp → Prop) (μ : St → Hp → Nat) (h0 : Pv σ H)
    (hs : ∀ σ H, Pv σ H → c σ H fun b H1 => if b = true then (∃ N : St → Hp → Prop, (∀ σ' H', N σ' H' → ∃ m', m' < μ σ H ∧ m' = μ σ' H' ∧ Pv σ' H') ∧ tb { D with nx := N, ct := N, bk := D.nx } σ H1) else D.nx σ H1) : tWhile c tb D σ H := by
  refine ⟨fun m σ H => m = μ σ H ∧ Pv σ H, ⟨_, rfl, h0⟩, ?_⟩
  rintro m σ H ⟨rfl, p⟩
  exact hs σ H p
def lastOf (ys : List Str) : Str := gd ys (ys.length - 1)
theorem lastOf_nil : lastOf [] = ("" : Str) := rfl
theorem hostOf_empty {rs : List Row} (B : Boo rs) : hostOf rs (some ("" : Str)) = none := by
  unfold hostOf
  have : rowOf rs (some ("" : Str)) = none := by
    cases e : rowOf rs (some ("" : Str)) with
    | none => rfl
    | some r => obtain ⟨hr, hn⟩ := row_some e; exact absurd hn (B.ne r hr)
  rw [this]; rfl
def sp_straight_above (K : PySem.W.Frag) : Sp := fun vs H Q _ => ∃ (a : Addr) (ys : List Str), vs = [.ref a] ∧ (SqL K H a (strV ys) ∨ SqT K H a (strV ys)) ∧ Q (.str (lastOf ys)) H
theorem len_straight_above (K : PySem.W.Frag) : ∀ vs H Q E, sp_straight_above K vs H Q E → vs.length = ["names"].length := by rintro vs H Q E ⟨a, ys, rfl, _⟩; rfl
def R_straight_above (K : PySem.W.Frag) : TS :=
 (tRet (tIf (tTest (tOp rGtA (tCB (rLenA K) (tCons (tVar 0) tNil)) (tC (.int 0)))) (tOp (rIxA K) (tVar 0) (tUn (rU fun i => .int (-i)) (tC (.int 1)))) (tC (.str ("" : Str)))))
theorem rd_straight_above (h : sp_straight_above K vs H Q E) : R_straight_above K { nx := fun _ H' => Q .non H', rt := Q } (start ["names"] vs) H := by
  obtain ⟨a, ys, rfl, hq, q⟩ := h
  show R_straight_above K _ [some (.ref a)] H
  unfold R_straight_above
  walk_at "step"
  refine v_lenQ hq ?_
  rw [strV_len]
  walk_at "step"
  by_cases h0 : (0 : Int) < (ys.length : Int)
  · rw [decide_eq_true h0]
    refine iteT ?_
    walk_at "step"
    refine ⟨1, rfl, ?_⟩
    have e1 : (strV ys)[(strV ys).length - 1]? = some (.str (lastOf ys)) := by
      rw [strV_len]; unfold strV lastOf; rw [List.getElem?_map, gd_get (by omega)]; rfl
    have e2 := atI_end (by rw [strV_len]; omega) e1
    rcases hq with hq | hq
    · exact v_ixL hq e2 q
    · exact v_ixT hq e2 q
  · rw [decide_eq_false h0]
    refine iteF ?_
    walk_at "step"
    have : ys = [] := List.length_eq_zero_iff.mp (by omega)
    subst this
    exact q

def sp_hosts_within (K : PySem.W.Frag) : Sp := fun vs H Q _ => ∃ (v : V) (x : Str) (rs : List Row), vs = [v, .str x] ∧ Rws K H v rs ∧ Boo rs ∧ ∀ (p : Addr) (H' : Hp), Same H H' → SqT K H' p (strV (hostsOf rs x)) → Q (.ref p) H'
theorem len_hosts_within (K : PySem.W.Frag) : ∀ vs H Q E, sp_hosts_within K vs H Q E → vs.length = ["book", "name"].length := by rintro vs H Q E ⟨v, x, rs, rfl, _⟩; rfl
def R_hosts_within (K : PySem.W.Frag) : TS :=
 (tSeq (tAsg (tLst tNil) (gName 2))
 (tSeq (tAsg (tCall (sp_host_of K) [] E0 (tCons (tVar 0) (tCons (tVar 1) tNil))) (gName 3))
 (tSeq (tWhile (tTest (tOp rIsNotA (tVar 3) (tC .non)))
 (tSeq (tDrop (tBM K "list" rAppend (tVar 2) (tCons (tVar 3) tNil)))
 (tAsg (tCall (sp_host_of K) [] E0 (tCons (tVar 0) (tCons (tVar 3) tNil))) (gName 3))))
 (tRet (tCB (rTupleA K) (tCons (tVar 2) tNil))))))
theorem rd_hosts_within (h : sp_hosts_within K vs H Q E) : R_hosts_within K { nx := fun _ H' => Q .non H', rt := Q } (start ["book", "name", "hosts", "host"] vs) H := by
  obtain ⟨v, x, rs, rfl, hR, B, q⟩ := h
  show R_hosts_within K _ [some v, some (.str x), none, none] H
  unfold R_hosts_within
  obtain ⟨rk, f⟩ := B.rise
  walk_at "step"
  refine ⟨sl64 (by simp), fun d hd => ?_⟩
  walk_at "step"
  refine ⟨v, some x, rs, rfl, hR.same (Same.new hd _), ?_⟩
  walk_at "step"
  refine while_by (fun σ H' => ∃ (n : Option Str) (ys : List Str), σ = [some v, some (.str x), some (.ref d), some (oV n)] ∧ Same H H' ∧ H' d = some (.lst (strV ys)) ∧ hostsOf rs x = ys ++ (match n with | none => [] | some y => y :: hostsOf rs y) ∧ ys.length ≤ 12 ∧ ∀ y, n = some y → ∃ x, hostOf rs (some x) = some y)
    (fun σ _ => match σ with | [_, _, _, some (.str y)] => 13 - rk y | _ => 0) ?_ ?_ ?_
  · refine ⟨hostOf rs (some x), [], rfl, Same.new hd _, upd_same, ?_, Nat.zero_le _, fun y e => ⟨x, e⟩⟩
    cases e : hostOf rs (some x) with
    | none => rw [hosts_none e]; rfl
    | some y => rw [hosts_some f e]; rfl
  · rintro σ H' ⟨n, ys, rfl, s1, h1, eh, hl, hn⟩
    have hlen : (hostsOf rs x).length ≤ 12 := downs_len rs 12 _
    cases n with
    | none =>
      refine ⟨_, rfl, rfl, _, rfl, ?_⟩
      show (if (!decide (V.non = V.non)) = true then _ else _)
      rw [decide_eq_true rfl, Bool.not_true]; refine iteF ?_
      walk_at "step"
      refine ⟨d, _, rfl, .inl ⟨SqL.of h1, fun p hp => ?_⟩⟩
      have : hostsOf rs x = ys := by rw [eh]; exact List.append_nil _
      exact q p _ (Same.tr s1 (Same.new hp _)) (by rw [this]; exact SqT.of upd_same)
    | some y =>
      refine ⟨_, rfl, rfl, _, rfl, ?_⟩
      show (if (!decide (V.str y = V.non)) = true then _ else _)
      rw [decide_eq_false (by simp), Bool.not_false]; refine iteT ?_
      have hl2 : ys.length + 1 ≤ 12 := by
        rw [eh, List.length_append] at hlen
        simp at hlen; omega
      walk_at "step"
      refine ⟨.inl ⟨rfl, _, SqL.of h1⟩, ?_⟩
      walk_at "step"
      refine v_append h1 (by rw [strV_len, sizeLine_eq]; omega) ?_
      rw [show (oV (some y)) = V.str y from rfl, strV_app]
      walk_at "step"
      refine ⟨v, some y, rs, rfl, hR.same (Same.put s1 hd _), ?_⟩
      walk_at "step"
      refine ⟨⟨hostOf rs (some y), ys ++ [y], rfl, Same.put s1 hd _, upd_same, ?_, by rw [List.length_append, List.length_singleton]; omega, fun z e => ⟨y, e⟩⟩, ?_⟩
      · rw [eh, List.append_assoc]
        congr 1
        cases e : hostOf rs (some y) with
        | none => show y :: hostsOf rs y = _; rw [hosts_none e]; rfl
        | some z => show y :: hostsOf rs y = _; rw [hosts_some f e]; rfl
      · show (match [some v, some (V.str x), some (V.ref d), some (oV (hostOf rs (some y)))] with | [_, _, _, some (.str y)] => 13 - rk y | _ => 0) < 13 - rk y
        obtain ⟨w, hw⟩ := hn y rfl
        have := (f _ _ hw).2
        cases e2 : hostOf rs (some y) with
        | none => show 0 < 13 - rk y; omega
        | some z => have := f y z e2; show 13 - rk z < 13 - rk y; omega
  · rintro σ H' Q1 Q2 hQ ⟨v1, e1, e2, k, e3, q1⟩
    exact ⟨v1, e1, e2, k, e3, hQ _ _ q1⟩

def sp_hosts_for (K : PySem.W.Frag) : Sp := fun vs H Q _ => ∃ (v : V) (a : Addr) (ys : List Str) (rs : List Row), vs = [v, .ref a] ∧ Rws K H v rs ∧ Boo rs ∧ (SqL K H a (strV ys) ∨ SqT K H a (strV ys)) ∧ (20 < ys.length + (hostsOf rs (lastOf ys)).length → ∀ H', Same H H' → Q .non H') ∧ (¬ 20 < ys.length + (hostsOf rs (lastOf ys)).length → ∀ (p : Addr) (H' : Hp), Same H H' → SqT K H' p (strV (hostsOf rs (lastOf ys))) → Q (.ref p) H')
theorem len_hosts_for (K : PySem.W.Frag) : ∀ vs H Q E, sp_hosts_for K vs H Q E → vs.length = ["book", "names"].length := by rintro vs H Q E ⟨v, a, ys, rs, rfl, _⟩; rfl
def R_hosts_for (K : PySem.W.Frag) : TS :=
 (tSeq (tAsg (tCall (sp_hosts_within K) [] E0 (tCons (tVar 0) (tCons (tCall (sp_straight_above K) [] E0 (tCons (tVar 1) tNil)) tNil))) (gName 2))
 (tRet (tIf (tTest (tOp rGtA (tOp (rAddA K) (tCB (rLenA K) (tCons (tVar 1) tNil)) (tCB (rLenA K) (tCons (tVar 2) tNil))) (tC (.int 20)))) (tC .non) (tVar 2))))
theorem rd_hosts_for (h : sp_hosts_for K vs H Q E) : R_hosts_for K { nx := fun _ H' => Q .non H', rt := Q } (start ["book", "names", "hosts"] vs) H := by
  obtain ⟨v, a, ys, rs, rfl, hR, B, hq, q1, q2⟩ := h
  show R_hosts_for K _ [some v, some (.ref a), none] H
  unfold R_hosts_for
  walk_at "step"
  refine ⟨a, ys, rfl, hq, ?_⟩
  walk_at "step"
  refine ⟨v, _, rs, rfl, hR, B, fun p H1 s1 hp => ?_⟩
  walk_at "step"
  refine v_lenQ (hq.imp s1.sqL s1.sqT) ?_
  rw [strV_len]
  walk_at "step"
  refine v_lenQ (.inr hp) ?_
  rw [strV_len]
  walk_at "step"
  by_cases h : 20 < ys.length + (hostsOf rs (lastOf ys)).length
  · rw [decide_eq_true (by omega)]
    refine iteT ?_
    walk_at "step"
    exact q1 h _ s1
  · rw [decide_eq_false (by omega)]
    refine iteF ?_
    walk_at "step"
    exact q2 h p _ s1 hp

def hlLoop (K : PySem.W.Frag) : TS :=
 (tSeq (tWhile (tAnd (tTest (tOp (rNeA K) (tVar 3) (tC (.str ("" : Str))))) (tTest (tOp (rEqA K) (tOp (rIxA K) (tCall (sp__law_row K) [] E0 (tCons (tVar 0) (tCons (tVar 3) tNil))) (tC (.int 1))) (tC (.str ("frame" : Str))))))
 (tSeq (tAsg (tOp (rIxA K) (tCall (sp__law_row K) [] E0 (tCons (tVar 0) (tCons (tVar 3) tNil))) (tC (.int 2))) (gName 3))
 (tDrop (tBM K "list" rAppend (tVar 2) (tCons (tVar 3) tNil)))))
 (tRet (tVar 2)))
def sp__law_hosts (K : PySem.W.Frag) : Sp := fun vs H Q _ => ∃ (v : V) (a : Addr) (ys : List Str) (rs : List Row), vs = [v, .ref a] ∧ Rws K H v rs ∧ Boo rs ∧ (SqL K H a (strV ys) ∨ SqT K H a (strV ys)) ∧ (∀ y ∈ ys, ∃ r ∈ rs, r.name = y) ∧ ∀ (p : Addr) (H' : Hp), Same H H' → H' p = some (.lst (strV (hostsOf rs (lastOf ys)))) → Q (.ref p) H'
theorem len__law_hosts (K : PySem.W.Frag) : ∀ vs H Q E, sp__law_hosts K vs H Q E → vs.length = ["_law_book_here", "_law_names_here"].length := by rintro vs H Q E ⟨v, a, ys, rs, rfl, _⟩; rfl
def R__law_hosts (K : PySem.W.Frag) : TS :=
 (tSeq (tAsg (tLst tNil) (gName 2))
 (tSeq (tAsg (tC (.str ("" : Str))) (gName 3))
 (tSeq (tIfS (tTest (tOp rGtA (tCB (rLenA K) (tCons (tVar 1) tNil)) (tC (.int 0))))
 (tAsg (tOp (rIxA K) (tVar 1) (tUn (rU fun i => .int (-i)) (tC (.int 1)))) (gName 3)) tNext)
 (hlLoop K))))
theorem rd__law_hosts (h : sp__law_hosts K vs H Q E) : R__law_hosts K { nx := fun _ H' => Q .non H', rt := Q } (start ["_law_book_here", "_law_names_here", "_law_hosts_here", "_law_last"] vs) H := by
  obtain ⟨v, a, ys, rs, rfl, hR, B, hq, hy, q⟩ := h
  show R__law_hosts K _ [some v, some (.ref a), none, none] H
  unfold R__law_hosts
  obtain ⟨rk, f⟩ := B.rise
  walk_at "step"
  refine ⟨sl64 (by simp), fun d hd => ?_⟩
  walk_at "step"
  refine v_lenQ (hq.imp (Same.new hd _).sqL (Same.new hd _).sqT) ?_
  rw [strV_len]
  walk_at "step"
  have body : ∀ w : Str, w = lastOf ys → hlLoop K { nx := fun _ H' => Q .non H', rt := Q } [some v, some (.ref a), some (.ref d), some (.str w)] (upd H d (.lst [])) := by
    intro w hw
    unfold hlLoop
    walk_at "step"
    refine while_raw (fun σ H' => ∃ (n : Str) (zs : List Str), σ = [some v, some (.ref a), some (.ref d), some (.str n)] ∧ Same H H' ∧ H' d = some (.lst (strV zs)) ∧ hostsOf rs (lastOf ys) = zs ++ hostsOf rs n ∧ zs.length ≤ 12 ∧ (n = ("" : Str) ∨ ∃ r ∈ rs, r.name = n))
      (fun σ _ => match σ with | [_, _, _, some (.str y)] => 12 - rk y | _ => 0) ?_ ?_
    · refine ⟨w, [], rfl, Same.new hd _, upd_same, by rw [hw]; rfl, Nat.zero_le _, ?_⟩
      rw [hw]
      by_cases h0 : ys = []
      · left; rw [h0]; rfl
      · right; exact hy _ (gd_mem (by have := List.length_pos_iff.mpr h0; omega))
    · rintro σ H' ⟨n, zs, rfl, s1, h1, eh, hl, hn⟩
      have hlen : (hostsOf rs (lastOf ys)).length ≤ 12 := downs_len rs 12 _
      have done : hostOf rs (some n) = none → (tRet (tVar 2)) { nx := fun _ H' => Q .non H', rt := Q } [some v, some (.ref a), some (.ref d), some (.str n)] H' := fun e => by
        walk_at "step"
        exact q d H' s1 (by rw [eh, hosts_none e, List.append_nil]; exact h1)
      walk_at "step"
      by_cases h0 : n = ("" : Str)
      · rw [decide_eq_true h0, Bool.not_true]
        refine iteF ?_
        refine iteF ?_
        exact done (by rw [h0]; exact hostOf_empty B)
      · rw [decide_eq_false h0, Bool.not_false]
        refine iteT ?_
        obtain ⟨r, er, mr, nr⟩ := row_ex (hn.resolve_left h0)
        walk_at "step"
        refine ⟨v, some n, rs, rfl, hR.same s1, fun e => (by rw [er] at e; cases e), fun r2 u e hu => ?_⟩
        rw [er] at e
        injection e with e
        subst e
        obtain ⟨b, ps, pb, rfl, hb, _, _⟩ := row_tup hu
        walk_at "step"
        refine v_ixT hb rfl ?_
        walk_at "step"
        by_cases hf : r.sort = ("frame" : Str)
        · have eho : hostOf rs (some n) = some r.host := by unfold hostOf; rw [er]; simp [hf]
          have ehs := hosts_some f eho
          rw [ehs] at eh
          have hl2 : zs.length + 1 ≤ 12 := by
            rw [eh, List.length_append] at hlen
            simp at hlen; omega
          rw [decide_eq_true hf]
          refine iteT ?_
          refine ⟨fun σ' H2 => (∃ (n : Str) (zs : List Str), σ' = [some v, some (.ref a), some (.ref d), some (.str n)] ∧ Same H H2 ∧ H2 d = some (.lst (strV zs)) ∧ hostsOf rs (lastOf ys) = zs ++ hostsOf rs n ∧ zs.length ≤ 12 ∧ (n = ("" : Str) ∨ ∃ r ∈ rs, r.name = n)) ∧ (match σ' with | [_, _, _, some (.str y)] => 12 - rk y | _ => 0) < 12 - rk n, fun σ' H' ⟨p, l⟩ => ⟨_, l, rfl, p⟩, ?_⟩
          walk_at "step"
          refine ⟨v, some n, rs, rfl, hR.same s1, fun e => (by rw [er] at e; cases e), fun r2 u e hu => ?_⟩
          rw [er] at e
          injection e with e
          subst e
          obtain ⟨b, ps, pb, rfl, hb, _, _⟩ := row_tup hu
          walk_at "step"
          refine v_ixT hb rfl ?_
          walk_at "step"
          refine ⟨.inl ⟨rfl, _, SqL.of h1⟩, ?_⟩
          walk_at "step"
          refine v_append h1 (by rw [strV_len, sizeLine_eq]; omega) ?_
          rw [strV_app]
          walk_at "step"
          obtain ⟨rk2, _, hrk⟩ := B.rk
          obtain ⟨⟨r5, hr5, en5, _⟩, _⟩ := hrk r mr hf
          refine ⟨⟨r.host, zs ++ [r.host], rfl, Same.put s1 hd _, upd_same, by rw [eh, List.append_assoc]; rfl, by rw [List.length_append, List.length_singleton]; omega, .inr ⟨r5, hr5, en5⟩⟩, ?_⟩
          have := f _ _ eho
          show 12 - rk r.host < 12 - rk n
          omega
        · rw [decide_eq_false hf]
          refine iteF ?_
          exact done (by unfold hostOf; rw [er]; simp [hf])
  by_cases h0 : (0 : Int) < (ys.length : Int)
  · rw [decide_eq_true h0]
    refine iteT ?_
    walk_at "step"
    refine ⟨1, rfl, ?_⟩
    have e1 : (strV ys)[(strV ys).length - 1]? = some (.str (lastOf ys)) := by
      rw [strV_len]; unfold strV lastOf; rw [List.getElem?_map, gd_get (by omega)]; rfl
    have e2 := atI_end (by rw [strV_len]; omega) e1
    rcases hq with hq | hq
    · refine v_ixL ((Same.new hd _).sqL hq) e2 ?_
      walk_at "step"
      exact body _ rfl
    · refine v_ixT ((Same.new hd _).sqT hq) e2 ?_
      walk_at "step"
      exact body _ rfl
  · rw [decide_eq_false h0]
    refine iteF ?_
    walk_at "step"
    have : ys = [] := List.length_eq_zero_iff.mp (by omega)
    exact body _ (by rw [this]; rfl)


theorem cut_take {ys : List Str} (k : Nat) : cutV (strV ys) none (some ((k : Nat) : Int)) = strV (ys.take k) := by
  unfold cutV
  rw [HT.sIx_nat]
  show ((strV ys).drop 0).take (min k (strV ys).length - 0) = _
  rw [List.drop_zero, Nat.sub_zero]
  unfold strV
  rw [List.map_take, List.length_map]
  by_cases hh : k ≤ ys.length
  · rw [Nat.min_eq_left hh]
  · rw [Nat.min_eq_right (by omega), List.take_of_length_le (by rw [List.length_map]; exact Nat.le_refl _), List.take_of_length_le (by rw [List.length_map]; omega)]
theorem nds_strs : ∀ xs : List Str, nds (sDa xs) = true
  | [] => by show nds [] = true; rw [nds]
  | x :: xs => by show nds (.str x :: sDa xs) = true; rw [nds, nds_strs xs, nd]; rfl
end My

namespace My
open PySem L2
variable {K : PySem.W.Frag} {vs : List V} {H : Hp} {Q : VK} {E : XK}

theorem Boo.falls {rs : List Row} (B : Boo rs) : ∃ rk, Falls rs rk := by
  obtain ⟨rk, h1, h2⟩ := B.rk
  refine ⟨rk, fun x y e => ?_⟩
  unfold frameOf at e
  obtain ⟨r, hr, rfl⟩ := Option.map_eq_some_iff.mp e
  have hm := List.mem_of_find?_eq_some hr
  have hp := List.find?_some hr
  rw [Bool.and_eq_true, decide_eq_true_eq, decide_eq_true_eq] at hp
  have := (h2 r hm hp.1).2
  rw [Option.some.inj hp.2] at this
  exact this
theorem frame_row {rs : List Row} {x y : Str} (e : frameOf rs (some x) = some y) : ∃ r ∈ rs, r.name = y ∧ r.sort = ("frame" : Str) ∧ r.host = x := by
  unfold frameOf at e
  obtain ⟨r, hr, rfl⟩ := Option.map_eq_some_iff.mp e
  have hm := List.mem_of_find?_eq_some hr
  have hp := List.find?_some hr
  rw [Bool.and_eq_true, decide_eq_true_eq, decide_eq_true_eq] at hp
  exact ⟨r, hm, rfl, hp.1, Option.some.inj hp.2⟩
theorem frameOf_empty {rs : List Row} (B : Boo rs) : frameOf rs (some ("" : Str)) = none := by
  cases e : frameOf rs (some ("" : Str)) with
  | none => rfl
  | some y =>
    obtain ⟨r, hm, _, hf, hh⟩ := frame_row e
    obtain ⟨rk, _, h2⟩ := B.rk
    obtain ⟨⟨r', hr', en, _⟩, _⟩ := h2 r hm hf
    exact absurd (en.trans hh) (B.ne r' hr')
theorem frS_eq {rs : List Row} (B : Boo rs) (n : Str) : frS rs n = (frameOf rs (some n)).getD ("" : Str) := by
  unfold frS
  by_cases h : n = ("" : Str)
  · rw [if_pos h, h, frameOf_empty B]; rfl
  · rw [if_neg h]
def bel (rs : List Row) (rk : Str → Nat) (y x : Str) : Bool := decide (x ∈ ups rs (rk y) (some y))
/-- what a closing closes, among the first k -/
def clo (rs : List Row) (rk : Str → Nat) (ys : List Str) (x : Str) : Nat → Option Nat
  | 0 => none
  | k + 1 => if gd ys k = x then some k else if wall rs (gd ys k) && !(bel rs rk (gd ys k) x) then none else clo rs rk ys x k
def nV : Option Nat → V
  | some k => .int (k : Int)
  | none => .non
theorem inV_non (xs : List Str) : inV .non (strV xs) = false := by
  induction xs with
  | nil => rfl
  | cons x l ih =>
    unfold inV at ih ⊢
    show (eqV (.str x) .non || (strV l).any fun z => eqV z .non) = false
    rw [ih]; rfl
def sp_is_wall (K : PySem.W.Frag) : Sp := fun vs H Q _ => ∃ v n rs, vs = [v, .str n] ∧ Rws K H v rs ∧ Q (.bl (wall rs n)) H
theorem len_is_wall (K : PySem.W.Frag) : ∀ vs H Q E, sp_is_wall K vs H Q E → vs.length = ["book", "name"].length := by rintro vs H Q E ⟨v, n, rs, rfl, _⟩; rfl
def R_is_wall (K : PySem.W.Frag) (c_WALL_SORTS : Addr) : TS :=
 (tRet (tOp (rInB K false) (tCall (sp_sort_of K) [] E0 (tCons (tVar 0) (tCons (tVar 1) tNil))) (tC (.ref c_WALL_SORTS))))
theorem rd_is_wall {c_WALL_SORTS : Addr} (q_WALL_SORTS : ∀ H : Hp, SqT K H c_WALL_SORTS [.str ("room" : Str), .str ("frame" : Str)]) (h : sp_is_wall K vs H Q E) : R_is_wall K c_WALL_SORTS { nx := fun _ H' => Q .non H', rt := Q } (start ["book", "name"] vs) H := by
  obtain ⟨v, n, rs, rfl, hR, q⟩ := h
  show R_is_wall K c_WALL_SORTS _ [some v, some (.str n)] H
  unfold R_is_wall
  walk_at "step"
  refine ⟨v, some n, rs, rfl, hR, ?_⟩
  walk_at "step"
  have hw : wall rs n = inV (oV (sortOf rs (some n))) (strV [("room" : Str), ("frame" : Str)]) := by
    unfold wall sortOf
    cases rowOf rs (some n) with
    | none => exact (inV_non _).symm
    | some r => exact (inV_strV _ _).symm
  refine .inl (v_in (xs := strV [("room" : Str), ("frame" : Str)]) (.inr (q_WALL_SORTS H)) ?_ (flat_strV _) ?_)
  · cases sortOf rs (some n) <;> rfl
  · rw [← hw]; exact q

def sp_closing (K : PySem.W.Frag) : Sp := fun vs H Q _ => ∃ (v : V) (a : Addr) (ys : List Str) (x : Str) (rs : List Row) (rk : Str → Nat), vs = [v, .ref a, .str x] ∧ Rws K H v rs ∧ Falls rs rk ∧ (SqL K H a (strV ys) ∨ SqT K H a (strV ys)) ∧ ys.length ≤ 1000 ∧ Q (nV (clo rs rk ys x ys.length)) H
theorem len_closing (K : PySem.W.Frag) : ∀ vs H Q E, sp_closing K vs H Q E → vs.length = ["book", "names", "name"].length := by rintro vs H Q E ⟨v, a, ys, x, rs, rk, rfl, _⟩; rfl
def R_closing (K : PySem.W.Frag) : TS :=
 (tSeq (tFor (iRng3 (tCons (tOp (rI0 fun i j => .int (i - j)) (tCB (rLenA K) (tCons (tVar 1) tNil)) (tC (.int 1))) (tCons (tUn (rU fun i => .int (-i)) (tC (.int 1))) (tCons (tUn (rU fun i => .int (-i)) (tC (.int 1))) tNil)))) (gName 3)
 (tSeq (tIfS (tTest (tOp (rEqA K) (tOp (rIxA K) (tVar 1) (tVar 3)) (tVar 2)))
 (tRet (tVar 3)) tNext)
 (tIfS (tAnd (tB (tCall (sp_is_wall K) [] E0 (tCons (tVar 0) (tCons (tOp (rIxA K) (tVar 1) (tVar 3)) tNil)))) (tNot (tB (tCall (sp_belongs K) [] E0 (tCons (tVar 0) (tCons (tOp (rIxA K) (tVar 1) (tVar 3)) (tCons (tVar 2) tNil)))))))
 (tRet (tC .non)) tNext)))
 (tRet (tC .non)))
theorem rd_closing (h : sp_closing K vs H Q E) : R_closing K { nx := fun _ H' => Q .non H', rt := Q } (start ["book", "names", "name", "number"] vs) H := by
  obtain ⟨v, a, ys, x, rs, rk, rfl, hR, f, hq, hl, q⟩ := h
  show R_closing K _ [some v, some (.ref a), some (.str x), none] H
  unfold R_closing
  walk_at "step"
  refine v_lenQ hq ?_
  rw [strV_len]
  walk_at "step"
  refine ⟨1, rfl, ?_⟩
  walk_at "step"
  refine ⟨1, rfl, ?_⟩
  walk_at "step"
  refine rng3_for (by omega) (fun i σ H' => H' = H ∧ (∃ w, σ = [some v, some (.ref a), some (.str x), w]) ∧ clo rs rk ys x ys.length = clo rs rk ys x (ys.length - i)) ⟨rfl, ⟨_, rfl⟩, rfl⟩ ?_ ?_
  · rintro i σ H' hi ⟨rfl, ⟨w, rfl⟩, hc⟩
    obtain ⟨k, hk⟩ : ∃ k : Nat, ys.length - i = k + 1 := ⟨ys.length - i - 1, by omega⟩
    have ek : (ys.length : Int) - 1 - (i : Int) = ((k : Nat) : Int) := by omega
    have hk2 : ys.length - (i + 1) = k := by omega
    have ix : ∀ Q' : VK, Q' (.str (gd ys k)) H' → rIxA K (.ref a) (.int ((k : Nat) : Int)) H' Q' := fun Q' h => by
      rcases hq with hq | hq
      · exact v_ixL hq (at_str (by omega)) h
      · exact v_ixT hq (at_str (by omega)) h
    rw [hk, clo] at hc
    rw [ek]
    walk_at "step"
    refine ix _ ?_
    walk_at "step"
    by_cases e : gd ys k = x
    · rw [decide_eq_true e]
      refine iteT ?_
      walk_at "step"
      rw [hc, if_pos e] at q
      exact q
    · rw [decide_eq_false e]
      refine iteF ?_
      rw [if_neg e] at hc
      walk_at "step"
      refine ix _ ?_
      walk_at "step"
      refine ⟨v, _, rs, rfl, hR, ?_⟩
      walk_at "step"
      cases hw : wall rs (gd ys k) with
      | false =>
        rw [hw, Bool.false_and, if_neg Bool.false_ne_true] at hc
        refine iteF ?_
        refine iteF ?_
        walk_at "step"
        exact ⟨rfl, ⟨_, rfl⟩, by rw [hk2]; exact hc⟩
      | true =>
        rw [hw, Bool.true_and] at hc
        refine iteT ?_
        walk_at "step"
        refine ix _ ?_
        walk_at "step"
        refine ⟨v, _, x, rs, rk, rfl, hR, f, ?_⟩
        show ∃ k_1, V.bl (bel rs rk (gd ys k) x) = V.bl k_1 ∧ _
        walk_at "step"
        cases hb : bel rs rk (gd ys k) x with
        | true =>
          rw [hb, Bool.not_true, if_neg Bool.false_ne_true] at hc
          rw [Bool.not_true]
          refine iteF ?_
          walk_at "step"
          exact ⟨rfl, ⟨_, rfl⟩, by rw [hk2]; exact hc⟩
        | false =>
          rw [hb, Bool.not_false, if_pos rfl] at hc
          rw [Bool.not_false]
          refine iteT ?_
          walk_at "step"
          rw [hc] at q
          exact q
  · rintro σ H' ⟨rfl, ⟨w, rfl⟩, hc⟩
    walk_at "step"
    rw [Nat.sub_self] at hc
    rw [hc] at q
    exact q

def sp__law_belongs (K : PySem.W.Frag) : Sp := fun vs H Q _ => ∃ v n g rs rk, vs = [v, .str n, .str g] ∧ Rws K H v rs ∧ Boo rs ∧ Falls rs rk ∧ g ≠ ("" : Str) ∧ Q (.bl (bel rs rk n g)) H
theorem len__law_belongs (K : PySem.W.Frag) : ∀ vs H Q E, sp__law_belongs K vs H Q E → vs.length = ["_law_book_here", "_law_name", "_law_frame_here"].length := by rintro vs H Q E ⟨v, n, g, rs, rk, rfl, _⟩; rfl
def R__law_belongs (K : PySem.W.Frag) : TS :=
 (tSeq (tAsg (tCall (sp__law_frame K) [] E0 (tCons (tVar 0) (tCons (tVar 1) tNil))) (gName 3))
 (tSeq (tWhile (tTest (tOp (rNeA K) (tVar 3) (tC (.str ("" : Str)))))
 (tSeq (tIfS (tTest (tOp (rEqA K) (tVar 3) (tVar 2)))
 (tRet (tC (.bl true))) tNext)
 (tAsg (tCall (sp__law_frame K) [] E0 (tCons (tVar 0) (tCons (tVar 3) tNil))) (gName 3))))
 (tRet (tC (.bl false)))))
theorem rd__law_belongs (h : sp__law_belongs K vs H Q E) : R__law_belongs K { nx := fun _ H' => Q .non H', rt := Q } (start ["_law_book_here", "_law_name", "_law_frame_here", "_law_there"] vs) H := by
  obtain ⟨v, n, g, rs, rk, rfl, hR, B, f, hg, q⟩ := h
  show R__law_belongs K _ [some v, some (.str n), some (.str g), none] H
  unfold R__law_belongs
  walk_at "step"
  refine ⟨v, n, rs, rfl, hR, B, ?_⟩
  rw [frS_eq B]
  walk_at "step"
  have ne : ∀ x y, frameOf rs (some x) = some y → y ≠ ("" : Str) := fun x y e => by
    obtain ⟨r, hm, en, _⟩ := frame_row e
    rw [← en]; exact B.ne r hm
  refine while_raw (fun σ H' => H' = H ∧ ∃ x : Option Str, σ = [some v, some (.str n), some (.str g), some (.str (x.getD ("" : Str)))] ∧ (∀ y, x = some y → y ≠ ("" : Str)) ∧ (g ∈ ups rs (rk n) (some n) ↔ g ∈ upTo rs rk x))
    (fun σ _ => match σ with | [_, _, _, some (.str y)] => (if y = ("" : Str) then 0 else rk y + 1) | _ => 0) ⟨rfl, frameOf rs (some n), rfl, fun y e => ne n y e, by rw [ups_upTo f]⟩ ?_
  rintro σ H' ⟨rfl, x, rfl, hx0, hx⟩
  walk_at "step"
  cases x with
  | none =>
    rw [decide_eq_true (show (none : Option Str).getD ("" : Str) = ("" : Str) from rfl), Bool.not_true]
    refine iteF ?_
    walk_at "step"
    have : bel rs rk n g = false := decide_eq_false fun z => by have := hx.mp z; simp [upTo] at this
    rw [this] at q; exact q
  | some y =>
    have hy := hx0 y rfl
    rw [decide_eq_false (show ¬ (some y : Option Str).getD ("" : Str) = ("" : Str) from hy), Bool.not_false]
    refine iteT ?_
    refine ⟨fun σ' H2 => (H2 = H' ∧ ∃ x : Option Str, σ' = [some v, some (.str n), some (.str g), some (.str (x.getD ("" : Str)))] ∧ (∀ y, x = some y → y ≠ ("" : Str)) ∧ (g ∈ ups rs (rk n) (some n) ↔ g ∈ upTo rs rk x)) ∧ (match σ' with | [_, _, _, some (.str y)] => (if y = ("" : Str) then 0 else rk y + 1) | _ => 0) < rk y + 1, fun σ' H2 ⟨p, l⟩ => ⟨_, ?_, rfl, p⟩, ?_⟩
    · show _ < (if y = ("" : Str) then 0 else rk y + 1)
      rw [if_neg hy]; exact l
    walk_at "step"
    by_cases e : y = g
    · rw [decide_eq_true (show (some y : Option Str).getD ("" : Str) = g from e)]
      refine iteT ?_
      walk_at "step"
      have : bel rs rk n g = true := decide_eq_true (hx.mpr (by subst e; simp [upTo]))
      rw [this] at q; exact q
    · rw [decide_eq_false (show ¬ (some y : Option Str).getD ("" : Str) = g from e)]
      refine iteF ?_
      walk_at "step"
      refine ⟨v, y, rs, rfl, hR, B, ?_⟩
      rw [frS_eq B]
      walk_at "step"
      refine ⟨⟨rfl, frameOf rs (some y), rfl, fun z e => ne y z e, ?_⟩, ?_⟩
      · rw [hx]
        show g ∈ y :: ups rs (rk y) (some y) ↔ _
        rw [ups_upTo f, List.mem_cons]
        exact ⟨fun z => z.resolve_left fun z => e z.symm, Or.inr⟩
      · show (if (frameOf rs (some y)).getD ("" : Str) = ("" : Str) then 0 else rk ((frameOf rs (some y)).getD ("" : Str)) + 1) < rk y + 1
        cases e2 : frameOf rs (some y) with
        | none => rw [if_pos (show (none : Option Str).getD ("" : Str) = ("" : Str) from rfl)]; exact Nat.succ_pos _
        | some z =>
          have := f y z e2
          show (if z = ("" : Str) then 0 else rk z + 1) < rk y + 1
          rw [if_neg (ne y z e2)]; omega

def sp__law_last (K : PySem.W.Frag) : Sp := fun vs H Q _ => ∃ (v : V) (a : Addr) (ys : List Str) (x : Str) (rs : List Row) (rk : Str → Nat), vs = [v, .ref a, .str x] ∧ Rws K H v rs ∧ Boo rs ∧ Falls rs rk ∧ x ≠ ("" : Str) ∧ (SqL K H a (strV ys) ∨ SqT K H a (strV ys)) ∧ ys.length ≤ 1000 ∧ ∀ H', Same H H' → Q (nV (clo rs rk ys x ys.length)) H'
theorem len__law_last (K : PySem.W.Frag) : ∀ vs H Q E, sp__law_last K vs H Q E → vs.length = ["_law_book_here", "_law_names_here", "_law_name"].length := by rintro vs H Q E ⟨v, a, ys, x, rs, rk, rfl, _⟩; rfl
def R__law_last (K : PySem.W.Frag) : TS :=
 (tSeq (tFor (iRevRng (tCons (tCB (rLenA K) (tCons (tVar 1) tNil)) tNil)) (gName 3)
 (tSeq (tIfS (tTest (tOp (rEqA K) (tOp (rIxA K) (tVar 1) (tVar 3)) (tVar 2)))
 (tRet (tVar 3)) tNext)
 (tIfS (tAnd (tB (tCall (sp__law_fence K) [] E0 (tCons (tVar 0) (tCons (tOp (rIxA K) (tVar 1) (tVar 3)) tNil)))) (tNot (tB (tCall (sp__law_belongs K) [] E0 (tCons (tVar 0) (tCons (tOp (rIxA K) (tVar 1) (tVar 3)) (tCons (tVar 2) tNil)))))))
 (tRet (tC .non)) tNext)))
 (tRet (tC .non)))
theorem rd__law_last (h : sp__law_last K vs H Q E) : R__law_last K { nx := fun _ H' => Q .non H', rt := Q } (start ["_law_book_here", "_law_names_here", "_law_name", "_law_k"] vs) H := by
  obtain ⟨v, a, ys, x, rs, rk, rfl, hR, B, f, hx0, hq, hl, q⟩ := h
  show R__law_last K _ [some v, some (.ref a), some (.str x), none] H
  unfold R__law_last
  walk_at "step"
  refine v_lenQ hq ?_
  rw [strV_len]
  walk_at "step"
  refine rev_for (by omega) (fun i σ H' => Same H H' ∧ (∃ w, σ = [some v, some (.ref a), some (.str x), w]) ∧ clo rs rk ys x ys.length = clo rs rk ys x (ys.length - i)) ⟨Same.refl _, ⟨_, rfl⟩, rfl⟩ ?_ ?_
  · rintro i σ H' hi ⟨s1, ⟨w, rfl⟩, hc⟩
    obtain ⟨k, hk⟩ : ∃ k : Nat, ys.length - i = k + 1 := ⟨ys.length - i - 1, by omega⟩
    have ek : (ys.length : Int) - 1 - (i : Int) = ((k : Nat) : Int) := by omega
    have hk2 : ys.length - (i + 1) = k := by omega
    have ix : ∀ H2, Same H H2 → ∀ Q' : VK, Q' (.str (gd ys k)) H2 → rIxA K (.ref a) (.int ((k : Nat) : Int)) H2 Q' := fun H2 s Q' h => by
      rcases hq with hq | hq
      · exact v_ixL (s.sqL hq) (at_str (by omega)) h
      · exact v_ixT (s.sqT hq) (at_str (by omega)) h
    rw [hk, clo] at hc
    rw [ek]
    walk_at "step"
    refine ix _ s1 _ ?_
    walk_at "step"
    by_cases e : gd ys k = x
    · rw [decide_eq_true e]
      refine iteT ?_
      walk_at "step"
      rw [hc, if_pos e] at q
      exact q _ s1
    · rw [decide_eq_false e]
      refine iteF ?_
      rw [if_neg e] at hc
      walk_at "step"
      refine ix _ s1 _ ?_
      walk_at "step"
      refine ⟨v, _, rs, rfl, hR.same s1, fun H2 s2 => ?_⟩
      have s3 := Same.tr s1 s2
      walk_at "step"
      cases hw : wall rs (gd ys k) with
      | false =>
        rw [hw, Bool.false_and, if_neg Bool.false_ne_true] at hc
        refine iteF ?_
        refine iteF ?_
        walk_at "step"
        exact ⟨s3, ⟨_, rfl⟩, by rw [hk2]; exact hc⟩
      | true =>
        rw [hw, Bool.true_and] at hc
        refine iteT ?_
        walk_at "step"
        refine ix _ s3 _ ?_
        walk_at "step"
        refine ⟨v, _, x, rs, rk, rfl, hR.same s3, B, f, hx0, ?_⟩
        walk_at "step"
        cases hb : bel rs rk (gd ys k) x with
        | true =>
          rw [hb, Bool.not_true, if_neg Bool.false_ne_true] at hc
          rw [Bool.not_true]
          refine iteF ?_
          walk_at "step"
          exact ⟨s3, ⟨_, rfl⟩, by rw [hk2]; exact hc⟩
        | false =>
          rw [hb, Bool.not_false, if_pos rfl] at hc
          rw [Bool.not_false]
          refine iteT ?_
          walk_at "step"
          rw [hc] at q
          exact q _ s3
  · rintro σ H' ⟨s1, ⟨w, rfl⟩, hc⟩
    walk_at "step"
    rw [Nat.sub_self] at hc
    rw [hc] at q
    exact q _ s1

def sp__law_whole (K : PySem.W.Frag) : Sp := fun vs H Q _ => ∃ k : Int, vs = [.int k] ∧ Q (.bl true) H
theorem len__law_whole (K : PySem.W.Frag) : ∀ vs H Q E, sp__law_whole K vs H Q E → vs.length = ["_law_found"].length := by rintro vs H Q E ⟨k, rfl, _⟩; rfl
def R__law_whole (K : PySem.W.Frag) : TS :=
 (tRet (tAndV (tCB (rIsi K) (tCons (tVar 0) (tCons (tC (.ty "int")) tNil))) (tNotV (tCB (rIsi K) (tCons (tVar 0) (tCons (tC (.ty "bool")) tNil))))))
theorem rd__law_whole (h : sp__law_whole K vs H Q E) : R__law_whole K { nx := fun _ H' => Q .non H', rt := Q } (start ["_law_found"] vs) H := by
  obtain ⟨k, rfl, q⟩ := h
  show R__law_whole K _ [some (.int k)] H
  unfold R__law_whole
  walk_at "step"
  refine v_isi (.int k) (b := true) rfl ?_
  walk_at "step"
  refine v_isi (.int k) (b := false) rfl ?_
  walk_at "step"
  exact q


theorem any_compS {g : TG} {tt : TT} {te : TE} {σ' : St} {H0 : Hp} {a : Addr} {xs : List V} (hq : SqL K H0 a xs ∨ SqT K H0 a xs) (s0 : Same H0 H) (Pv : Nat → List V → Hp → Prop) (h0 : Pv 0 [] H) (hlen : ∀ i ys H, i ≤ xs.length → Pv i ys H → ys.length ≤ sizeLine) (hk : ∀ i ys H', Pv i ys H' → Same H0 H')
    (hs : ∀ i x ys H, xs[i]? = some x → Pv i ys H → g x σ' H fun σ2 H2 => tt σ2 H2 fun b H3 => if b = true then te σ2 H3 fun y H4 => Pv (i + 1) (ys ++ [y]) H4 else Pv (i + 1) ys H3)
    (hd : ∀ ys H, Pv xs.length ys H → ∀ p, H p = none → Q (.ref p) (upd H p (.lst ys))) :
    ∃ b, V.ref a = .ref b ∧ (((∃ xs, SqL K H b xs) ∧ CompW g tt te σ' Q (Itl K b) H) ∨ ((∃ xs, SqT K H b xs) ∧ CompW g tt te σ' Q (Itt K b) H)) := by
  rcases hq with hq | hq
  · exact any_compL (s0.sqL hq) Pv h0 hlen (fun i ys H' _ p => (hk i ys H' p).sqL hq) hs hd
  · refine ⟨a, rfl, .inr ⟨⟨xs, s0.sqT hq⟩, comp_of (n := xs.length) (fun i x => xs[i]? = some x) Pv h0 hlen (fun i ys H hi p => ?_) (fun i ys H x H' hi p y => ?_) (fun ys H p => ?_) (fun i x ys H _ hx p => hs i x ys H hx p) hd⟩⟩
    · exact ⟨xs, xs[i], (hk i ys H p).sqT hq, by simp [hi]⟩
    · exact ⟨y.1, y.2 xs ((hk i ys H p).sqT hq)⟩
    · exact ⟨xs, (hk _ ys H p).sqT hq, Nat.le_refl _⟩
end My

namespace My
open PySem L2
variable {K : PySem.W.Frag} {vs : List V} {H : Hp} {Q : VK} {E : XK}
def sp_law (K : PySem.W.Frag) : Sp := fun vs H Q _ => ∃ (a : Addr) (ns : List Int), vs = [.ref a] ∧ SqL K H a (ns.map V.int) ∧ ns.length ≤ 63 ∧ ∀ H', Q (.bl true) H'
theorem len_law (K : PySem.W.Frag) : ∀ vs H Q E, sp_law K vs H Q E → vs.length = ["_law_script"].length := by rintro vs H Q E ⟨a, b, rfl, _⟩; rfl
def R_law (K : PySem.W.Frag) : TS :=
 (tSeq (tAsg (tCall (sp__law_book K) [] E0 (tCons (tVar 0) tNil)) (gName 1))
 (tSeq (tAsg (tCall (sp__law_stack K) [] E0 (tCons (tVar 0) (tCons (tC (.int 15)) (tCons (tVar 1) tNil)))) (gName 2))
 (tSeq (tFor (iAny K (tOp (rAddB K) (tOp (rAddB K) (tComp [none] (iAny K (tVar 1)) (gName 0) tTT (tOp (rIxA K) (tVar 0) (tC (.int 0)))) (tLst (tCons (tC (.str ("zzzzzzzz" : Str))) (tCons (tC (.str ("q" : Str))) tNil)))) (tCB (rListA K) (tCons (tVar 2) tNil)))) (gName 3)
 (tSeq (tAsg (tCall (sp__law_last K) [] E0 (tCons (tVar 1) (tCons (tVar 2) (tCons (tVar 3) tNil)))) (gName 4))
 (tSeq (tAsg (tCall (sp_closing K) [] E0 (tCons (tVar 1) (tCons (tVar 2) (tCons (tVar 3) tNil)))) (gName 5))
 (tIfS (tTest (tOp rIsA (tVar 4) (tC .non)))
 (tIfS (tTest (tOp rIsNotA (tVar 5) (tC .non)))
 (tRet (tC (.bl false))) tNext) (tIfS (tOr (tNot (tB (tCall (sp__law_whole K) [] E0 (tCons (tVar 5) tNil)))) (tTest (tOp (rNeA K) (tVar 5) (tVar 4))))
 (tRet (tC (.bl false))) tNext)))))
 (tRet (tC (.bl true))))))
theorem rd_law (h : sp_law K vs H Q E) : R_law K { nx := fun _ H' => Q .non H', rt := Q } (start ["_law_script", "_law_book_here", "_law_names_here", "_law_name", "_law_due", "_law_found"] vs) H := by
  obtain ⟨sc, ns, rfl, hS, hn, q⟩ := h
  show R_law K _ [some (.ref sc), none, none, none, none, none] H
  unfold R_law
  walk_at "step"
  refine ⟨sc, ns, rfl, hS, fun t us rs H1 s1 ht dv B => ?_⟩
  walk_at "step"
  refine ⟨sc, t, ns, 15, us, rs, rfl, s1.sqL hS, hn, SqT.of ht, dv, B, fun p ys H2 s2 hp hk => ?_⟩
  have hR : Rws K H2 (.ref t) rs := ⟨t, us, rfl, .inr (SqT.of (s2 _ _ ht)), Dvs.same s2 _ _ dv⟩
  have ul : us.length = rs.length := by have := dv.length; simpa using this
  have yl := hk.l
  have rl := B.l2
  obtain ⟨rk, f⟩ := B.falls
  walk_at "step"
  refine any_compS (H0 := H2) (.inr (SqT.of (s2 _ _ ht))) (Same.refl _) (fun i zs H' => H' = H2 ∧ ∃ ws : List Str, zs = strV ws ∧ ws.length = i ∧ ∀ w ∈ ws, ∃ r ∈ rs, r.name = w) ⟨rfl, [], rfl, rfl, by simp⟩ ?_ (fun i zs H' p => p.1 ▸ Same.refl _) ?_ ?_
  · rintro i zs H' hi ⟨_, ws, rfl, hw, _⟩
    rw [strV_len]; exact sl64 (by omega)
  · rintro i x zs H' hx ⟨rfl, ws, rfl, hw, hws⟩
    obtain ⟨dd, e1, dvx⟩ := (Dvs.same s2 _ _ dv).get' hx
    rw [List.getElem?_map] at e1
    obtain ⟨r, hr, rfl⟩ := Option.map_eq_some_iff.mp e1
    obtain ⟨b, ps, pb, rfl, hb, _, _⟩ := row_tup dvx
    walk_at "step"
    refine v_ixT hb rfl ?_
    refine ⟨rfl, ws ++ [r.name], strV_app _ _, by simp [hw], fun w h => ?_⟩
    rcases List.mem_append.mp h with h | h
    · exact hws w h
    · rw [List.mem_singleton.mp h]; exact ⟨r, List.mem_of_getElem? hr, rfl⟩
  rintro zs H3 ⟨rfl, ws, rfl, hw, hws⟩ p3 hp3
  walk_at "step"
  refine ⟨sl64 (by simp), fun p4 hp4 => ?_⟩
  have h34 : (upd (upd H3 p3 (.lst (strV ws))) p4 (.lst [.str ("zzzzzzzz" : Str), .str ("q" : Str)])) p3 = some (.lst (strV ws)) := by rw [upd_ne (ne_free upd_same hp4)]; exact upd_same
  refine .inl (v_cat h34 upd_same (by rw [strV_len]; exact sl64 (by simp; omega)) fun p5 hp5 => ?_)
  have e5 : strV ws ++ [V.str ("zzzzzzzz" : Str), V.str ("q" : Str)] = strV (ws ++ [("zzzzzzzz" : Str), ("q" : Str)]) := by simp [strV]
  rw [e5]
  have s5 : Same H3 (upd (upd (upd H3 p3 (.lst (strV ws))) p4 (.lst [.str ("zzzzzzzz" : Str), .str ("q" : Str)])) p5 (.lst (strV (ws ++ [("zzzzzzzz" : Str), ("q" : Str)])))) := Same.tr (Same.new hp3 _) (Same.tr (Same.new hp4 _) (Same.new hp5 _))
  have h5 : (upd (upd (upd H3 p3 (.lst (strV ws))) p4 (.lst [.str ("zzzzzzzz" : Str), .str ("q" : Str)])) p5 (.lst (strV (ws ++ [("zzzzzzzz" : Str), ("q" : Str)])))) p5 = some (.lst (strV (ws ++ [("zzzzzzzz" : Str), ("q" : Str)]))) := upd_same
  generalize (upd (upd (upd H3 p3 (.lst (strV ws))) p4 (.lst [.str ("zzzzzzzz" : Str), .str ("q" : Str)])) p5 (.lst (strV (ws ++ [("zzzzzzzz" : Str), ("q" : Str)])))) = H5 at *
  walk_at "step"
  refine ⟨p, _, rfl, .inr (s5.sqT hp), fun p6 hp6 => ?_⟩
  have h56 : (upd H5 p6 (.lst (strV ys))) p5 = some (.lst (strV (ws ++ [("zzzzzzzz" : Str), ("q" : Str)]))) := by rw [upd_ne (ne_free h5 hp6)]; exact h5
  refine .inl (v_cat h56 upd_same (by rw [strV_len, strV_len]; exact sl64 (by simp; omega)) fun p7 hp7 => ?_)
  have e7 : strV (ws ++ [("zzzzzzzz" : Str), ("q" : Str)]) ++ strV ys = strV (ws ++ [("zzzzzzzz" : Str), ("q" : Str)] ++ ys) := by simp [strV]
  rw [e7]
  have s7 : Same H3 (upd (upd H5 p6 (.lst (strV ys))) p7 (.lst (strV (ws ++ [("zzzzzzzz" : Str), ("q" : Str)] ++ ys)))) := Same.tr s5 (Same.tr (Same.new hp6 _) (Same.new hp7 _))
  have h7 : (upd (upd H5 p6 (.lst (strV ys))) p7 (.lst (strV (ws ++ [("zzzzzzzz" : Str), ("q" : Str)] ++ ys)))) p7 = some (.lst (strV (ws ++ [("zzzzzzzz" : Str), ("q" : Str)] ++ ys))) := upd_same
  generalize (upd (upd H5 p6 (.lst (strV ys))) p7 (.lst (strV (ws ++ [("zzzzzzzz" : Str), ("q" : Str)] ++ ys)))) = H7 at *
  have all_ne : ∀ x ∈ ws ++ [("zzzzzzzz" : Str), ("q" : Str)] ++ ys, x ≠ ("" : Str) := fun x hx => by
    rcases List.mem_append.mp hx with h | h
    · rcases List.mem_append.mp h with h | h
      · obtain ⟨r, hr, e⟩ := hws x h; rw [← e]; exact B.ne r hr
      · have h : x = ("zzzzzzzz" : Str) ∨ x = ("q" : Str) := by simpa using h
        rcases h with rfl | rfl <;> decide
    · obtain ⟨r, hr, e⟩ := hk.m x h; rw [← e]; exact B.ne r hr
  refine any_forS (H0 := H7) (.inl (SqL.of h7)) (Same.refl _) (fun i σ H' => Same H7 H' ∧ ∃ (a3 a4 a5 : Option V), σ = [some (.ref sc), some (.ref t), some (.ref p), a3, a4, a5]) ⟨Same.refl _, none, none, none, rfl⟩ (fun i σ H' h => h.1) ?_ ?_
  · rintro i v σ H' hv ⟨s8, a3, a4, a5, rfl⟩
    obtain ⟨x, hx, rfl⟩ := strV_get hv
    have hxn := all_ne x (List.mem_of_getElem? hx)
    have s9 := Same.tr s7 s8
    walk_at "step"
    refine ⟨.ref t, p, ys, x, rs, rk, rfl, hR.same s9, B, f, hxn, .inr (s9.sqT hp), by omega, fun H9 s10 => ?_⟩
    have s11 := Same.tr s9 s10
    walk_at "step"
    refine ⟨.ref t, p, ys, x, rs, rk, rfl, hR.same s11, f, .inr (s11.sqT hp), by omega, ?_⟩
    walk_at "step"
    cases clo rs rk ys x ys.length with
    | none =>
      rw [decide_eq_true (show nV none = V.non from rfl)]
      refine iteT ?_
      walk_at "step"
      rw [decide_eq_true (show nV none = V.non from rfl), Bool.not_true]
      refine iteF ?_
      walk_at "step"
      exact ⟨Same.tr s8 s10, _, _, _, rfl⟩
    | some k =>
      rw [decide_eq_false (show ¬ nV (some k) = V.non by simp [nV])]
      refine iteF ?_
      walk_at "step"
      refine ⟨(k : Int), rfl, ?_⟩
      walk_at "step"
      rw [Bool.not_true]
      refine iteF ?_
      walk_at "step"
      refine v_neI ?_
      rw [decide_eq_true rfl]
      walk_at "step"
      rw [Bool.not_true]
      refine iteF ?_
      walk_at "step"
      exact ⟨Same.tr s8 s10, _, _, _, rfl⟩
  · rintro σ H' ⟨s8, a3, a4, a5, rfl⟩
    walk_at "step"
    exact q _

end My

namespace My
open PySem L2 PyProof.Rows
set_option maxHeartbeats 0
def top (i : Nat) : Stmt := PySem.Challenge.pw_tagmend_k30_what_closings_close.main.body.getD i (.Pass ⟨0, 0, 0, 0⟩)
abbrev s_row_of : Stmt := top 5
abbrev s_sort_of : Stmt := top 6
abbrev s_is_wall : Stmt := top 7
abbrev s_frame_of : Stmt := top 8
abbrev s_belongs : Stmt := top 9
abbrev s_closing : Stmt := top 11
abbrev s__law_cell_at : Stmt := top 13
abbrev s__law_mixed : Stmt := top 14
abbrev s__law_letters : Stmt := top 15
abbrev s__law_names : Stmt := top 16
abbrev s__law_sorts : Stmt := top 17
abbrev s__law_book : Stmt := top 18
abbrev s__law_row : Stmt := top 19
abbrev s__law_frame : Stmt := top 20
abbrev s__law_fence : Stmt := top 21
abbrev s__law_belongs : Stmt := top 22
abbrev s__law_near : Stmt := top 23
abbrev s__law_may : Stmt := top 24
abbrev s__law_stack : Stmt := top 25
abbrev s__law_last : Stmt := top 26
abbrev s__law_whole : Stmt := top 27
abbrev s_law : Stmt := top 28
structure Adr where
  a_row_of : Addr
  d_row_of : FuncData
  a_sort_of : Addr
  d_sort_of : FuncData
  a_is_wall : Addr
  d_is_wall : FuncData
  a_frame_of : Addr
  d_frame_of : FuncData
  a_belongs : Addr
  d_belongs : FuncData
  a_closing : Addr
  d_closing : FuncData
  a__law_cell_at : Addr
  d__law_cell_at : FuncData
  a__law_mixed : Addr
  d__law_mixed : FuncData
  a__law_letters : Addr
  d__law_letters : FuncData
  a__law_names : Addr
  d__law_names : FuncData
  a__law_sorts : Addr
  d__law_sorts : FuncData
  a__law_book : Addr
  d__law_book : FuncData
  a__law_row : Addr
  d__law_row : FuncData
  a__law_frame : Addr
  d__law_frame : FuncData
  a__law_fence : Addr
  d__law_fence : FuncData
  a__law_belongs : Addr
  d__law_belongs : FuncData
  a__law_near : Addr
  d__law_near : FuncData
  a__law_may : Addr
  d__law_may : FuncData
  a__law_stack : Addr
  d__law_stack : FuncData
  a__law_last : Addr
  d__law_last : FuncData
  a__law_whole : Addr
  d__law_whole : FuncData
  a_law : Addr
  d_law : FuncData
  c_WALL_SORTS : Addr
  v_NAME : Value
  v_SORT : Value
  v_HOST : Value
structure Txt (K : PySem.W.Frag) (mg : Str → Option Value) (t : Adr) : Prop where
  F_row_of : Fun K "row_of" "row_of" s_row_of t.a_row_of t.d_row_of
  b_row_of : Binds K t.d_row_of ["rows", "name"] []
  m_row_of : mg "row_of" = some (.ref t.a_row_of)
  F_sort_of : Fun K "sort_of" "sort_of" s_sort_of t.a_sort_of t.d_sort_of
  b_sort_of : Binds K t.d_sort_of ["book", "name"] []
  m_sort_of : mg "sort_of" = some (.ref t.a_sort_of)
  F_is_wall : Fun K "is_wall" "is_wall" s_is_wall t.a_is_wall t.d_is_wall
  b_is_wall : Binds K t.d_is_wall ["book", "name"] []
  m_is_wall : mg "is_wall" = some (.ref t.a_is_wall)
  F_frame_of : Fun K "frame_of" "frame_of" s_frame_of t.a_frame_of t.d_frame_of
  b_frame_of : Binds K t.d_frame_of ["book", "name"] []
  m_frame_of : mg "frame_of" = some (.ref t.a_frame_of)
  F_belongs : Fun K "belongs" "belongs" s_belongs t.a_belongs t.d_belongs
  b_belongs : Binds K t.d_belongs ["book", "name", "frame"] []
  m_belongs : mg "belongs" = some (.ref t.a_belongs)
  F_closing : Fun K "closing" "closing" s_closing t.a_closing t.d_closing
  b_closing : Binds K t.d_closing ["book", "names", "name"] []
  m_closing : mg "closing" = some (.ref t.a_closing)
  F__law_cell_at : Fun K "_law_cell_at" "_law_cell_at" s__law_cell_at t.a__law_cell_at t.d__law_cell_at
  b__law_cell_at : Binds K t.d__law_cell_at ["_law_script", "_law_k"] []
  m__law_cell_at : mg "_law_cell_at" = some (.ref t.a__law_cell_at)
  F__law_mixed : Fun K "_law_mixed" "_law_mixed" s__law_mixed t.a__law_mixed t.d__law_mixed
  b__law_mixed : Binds K t.d__law_mixed ["_law_cell", "_law_k"] []
  m__law_mixed : mg "_law_mixed" = some (.ref t.a__law_mixed)
  F__law_letters : Fun K "_law_letters" "_law_letters" s__law_letters t.a__law_letters t.d__law_letters
  b__law_letters : Binds K t.d__law_letters ["_law_number"] []
  m__law_letters : mg "_law_letters" = some (.ref t.a__law_letters)
  F__law_names : Fun K "_law_names" "_law_names" s__law_names t.a__law_names t.d__law_names
  b__law_names : Binds K t.d__law_names ["_law_cell"] []
  m__law_names : mg "_law_names" = some (.ref t.a__law_names)
  F__law_sorts : Fun K "_law_sorts" "_law_sorts" s__law_sorts t.a__law_sorts t.d__law_sorts
  b__law_sorts : Binds K t.d__law_sorts ["_law_script", "_law_names_here", "_law_count"] []
  m__law_sorts : mg "_law_sorts" = some (.ref t.a__law_sorts)
  F__law_book : Fun K "_law_book" "_law_book" s__law_book t.a__law_book t.d__law_book
  b__law_book : Binds K t.d__law_book ["_law_script"] []
  m__law_book : mg "_law_book" = some (.ref t.a__law_book)
  F__law_row : Fun K "_law_row" "_law_row" s__law_row t.a__law_row t.d__law_row
  b__law_row : Binds K t.d__law_row ["_law_book_here", "_law_name"] []
  m__law_row : mg "_law_row" = some (.ref t.a__law_row)
  F__law_frame : Fun K "_law_frame" "_law_frame" s__law_frame t.a__law_frame t.d__law_frame
  b__law_frame : Binds K t.d__law_frame ["_law_book_here", "_law_name"] []
  m__law_frame : mg "_law_frame" = some (.ref t.a__law_frame)
  F__law_fence : Fun K "_law_fence" "_law_fence" s__law_fence t.a__law_fence t.d__law_fence
  b__law_fence : Binds K t.d__law_fence ["_law_book_here", "_law_name"] []
  m__law_fence : mg "_law_fence" = some (.ref t.a__law_fence)
  F__law_belongs : Fun K "_law_belongs" "_law_belongs" s__law_belongs t.a__law_belongs t.d__law_belongs
  b__law_belongs : Binds K t.d__law_belongs ["_law_book_here", "_law_name", "_law_frame_here"] []
  m__law_belongs : mg "_law_belongs" = some (.ref t.a__law_belongs)
  F__law_near : Fun K "_law_near" "_law_near" s__law_near t.a__law_near t.d__law_near
  b__law_near : Binds K t.d__law_near ["_law_book_here", "_law_names_here"] []
  m__law_near : mg "_law_near" = some (.ref t.a__law_near)
  F__law_may : Fun K "_law_may" "_law_may" s__law_may t.a__law_may t.d__law_may
  b__law_may : Binds K t.d__law_may ["_law_book_here", "_law_names_here", "_law_name"] []
  m__law_may : mg "_law_may" = some (.ref t.a__law_may)
  F__law_stack : Fun K "_law_stack" "_law_stack" s__law_stack t.a__law_stack t.d__law_stack
  b__law_stack : Binds K t.d__law_stack ["_law_script", "_law_start", "_law_book_here"] []
  m__law_stack : mg "_law_stack" = some (.ref t.a__law_stack)
  F__law_last : Fun K "_law_last" "_law_last" s__law_last t.a__law_last t.d__law_last
  b__law_last : Binds K t.d__law_last ["_law_book_here", "_law_names_here", "_law_name"] []
  m__law_last : mg "_law_last" = some (.ref t.a__law_last)
  F__law_whole : Fun K "_law_whole" "_law_whole" s__law_whole t.a__law_whole t.d__law_whole
  b__law_whole : Binds K t.d__law_whole ["_law_found"] []
  m__law_whole : mg "_law_whole" = some (.ref t.a__law_whole)
  F_law : Fun K "law" "law" s_law t.a_law t.d_law
  b_law : Binds K t.d_law ["_law_script"] []
  m_law : mg "law" = some (.ref t.a_law)
  g_WALL_SORTS : mg "WALL_SORTS" = some (.ref t.c_WALL_SORTS)
  q_WALL_SORTS : ∀ H : Hp, SqT K H t.c_WALL_SORTS [.str ("room" : Str), .str ("frame" : Str)]
  g_NAME : mg "NAME" = some t.v_NAME ∧ RelV (.int 0) t.v_NAME
  g_SORT : mg "SORT" = some t.v_SORT ∧ RelV (.int 1) t.v_SORT
  g_HOST : mg "HOST" = some t.v_HOST ∧ RelV (.int 2) t.v_HOST
  z_bool : mg "bool" = none
  z_int : mg "int" = none
  z_isinstance : mg "isinstance" = none
  z_len : mg "len" = none
  z_list : mg "list" = none
  z_range : mg "range" = none
  z_reversed : mg "reversed" = none
  z_sorted : mg "sorted" = none
  z_tuple : mg "tuple" = none
section
variable {P : Program} {w : World} {K : PySem.W.Frag} {mg : Str → Option Value} {base : Heap} {t : Adr}
theorem sc_row_of : FnScope ["rows", "name", "row"] ["rows", "name"] (defScope s_row_of) := ⟨rfl, rfl, rfl, by decide +kernel, rfl, by decide +kernel, by decide +kernel⟩
theorem sc_sort_of : FnScope ["book", "name", "row"] ["book", "name"] (defScope s_sort_of) := ⟨rfl, rfl, rfl, by decide +kernel, rfl, by decide +kernel, by decide +kernel⟩
theorem sc_is_wall : FnScope ["book", "name"] ["book", "name"] (defScope s_is_wall) := ⟨rfl, rfl, rfl, by decide +kernel, rfl, by decide +kernel, by decide +kernel⟩
theorem sc_frame_of : FnScope ["book", "name", "row"] ["book", "name"] (defScope s_frame_of) := ⟨rfl, rfl, rfl, by decide +kernel, rfl, by decide +kernel, by decide +kernel⟩
theorem sc_belongs : FnScope ["book", "name", "frame", "above"] ["book", "name", "frame"] (defScope s_belongs) := ⟨rfl, rfl, rfl, by decide +kernel, rfl, by decide +kernel, by decide +kernel⟩
theorem sc_closing : FnScope ["book", "names", "name", "number"] ["book", "names", "name"] (defScope s_closing) := ⟨rfl, rfl, rfl, by decide +kernel, rfl, by decide +kernel, by decide +kernel⟩
theorem sc__law_cell_at : FnScope ["_law_script", "_law_k"] ["_law_script", "_law_k"] (defScope s__law_cell_at) := ⟨rfl, rfl, rfl, by decide +kernel, rfl, by decide +kernel, by decide +kernel⟩
theorem sc__law_mixed : FnScope ["_law_cell", "_law_k", "_law_half", "_law_number"] ["_law_cell", "_law_k"] (defScope s__law_mixed) := ⟨rfl, rfl, rfl, by decide +kernel, rfl, by decide +kernel, by decide +kernel⟩
theorem sc__law_letters : FnScope ["_law_number", "_law_signs", "_law_width", "_law_j"] ["_law_number"] (defScope s__law_letters) := ⟨rfl, rfl, rfl, by decide +kernel, rfl, by decide +kernel, by decide +kernel⟩
theorem sc__law_names : FnScope ["_law_cell", "_law_letters_here", "_law_names_here", "_law_k", "_law_signs", "_law_name", "_law_spare"] ["_law_cell"] (defScope s__law_names) := ⟨rfl, rfl, rfl, by decide +kernel, rfl, by decide +kernel, by decide +kernel⟩
theorem sc__law_sorts : FnScope ["_law_script", "_law_names_here", "_law_count", "_law_some", "_law_sorts_here", "_law_hosts", "_law_taken", "_law_k", "_law_able", "_law_j"] ["_law_script", "_law_names_here", "_law_count"] (defScope s__law_sorts) := ⟨rfl, rfl, rfl, by decide +kernel, rfl, by decide +kernel, by decide +kernel⟩
theorem sc__law_book : FnScope ["_law_script", "_law_names_here", "_law_count", "_law_sorts_here", "_law_hosts", "_law_taken", "_law_rows", "_law_k", "_law_own", "_law_able", "_law_shuts", "_law_bars", "_law_row_here"] ["_law_script"] (defScope s__law_book) := ⟨rfl, rfl, rfl, by decide +kernel, rfl, by decide +kernel, by decide +kernel⟩
theorem sc__law_row : FnScope ["_law_book_here", "_law_name", "_law_row_here"] ["_law_book_here", "_law_name"] (defScope s__law_row) := ⟨rfl, rfl, rfl, by decide +kernel, rfl, by decide +kernel, by decide +kernel⟩
theorem sc__law_frame : FnScope ["_law_book_here", "_law_name", "_law_row_here"] ["_law_book_here", "_law_name"] (defScope s__law_frame) := ⟨rfl, rfl, rfl, by decide +kernel, rfl, by decide +kernel, by decide +kernel⟩
theorem sc__law_fence : FnScope ["_law_book_here", "_law_name", "_law_row_here"] ["_law_book_here", "_law_name"] (defScope s__law_fence) := ⟨rfl, rfl, rfl, by decide +kernel, rfl, by decide +kernel, by decide +kernel⟩
theorem sc__law_belongs : FnScope ["_law_book_here", "_law_name", "_law_frame_here", "_law_there"] ["_law_book_here", "_law_name", "_law_frame_here"] (defScope s__law_belongs) := ⟨rfl, rfl, rfl, by decide +kernel, rfl, by decide +kernel, by decide +kernel⟩
theorem sc__law_near : FnScope ["_law_book_here", "_law_names_here", "_law_near_here", "_law_name"] ["_law_book_here", "_law_names_here"] (defScope s__law_near) := ⟨rfl, rfl, rfl, by decide +kernel, rfl, by decide +kernel, by decide +kernel⟩
theorem sc__law_may : FnScope ["_law_book_here", "_law_names_here", "_law_name", "_law_row_here", "_law_last_here", "_law_other"] ["_law_book_here", "_law_names_here", "_law_name"] (defScope s__law_may) := ⟨rfl, rfl, rfl, by decide +kernel, rfl, by decide +kernel, by decide +kernel⟩
theorem sc__law_stack : FnScope ["_law_script", "_law_start", "_law_book_here", "_law_names_here", "_law_cell", "_law_number", "_law_row_here", "_law_times", "_law_k"] ["_law_script", "_law_start", "_law_book_here"] (defScope s__law_stack) := ⟨rfl, rfl, rfl, by decide +kernel, rfl, by decide +kernel, by decide +kernel⟩
theorem sc__law_last : FnScope ["_law_book_here", "_law_names_here", "_law_name", "_law_k"] ["_law_book_here", "_law_names_here", "_law_name"] (defScope s__law_last) := ⟨rfl, rfl, rfl, by decide +kernel, rfl, by decide +kernel, by decide +kernel⟩
theorem sc__law_whole : FnScope ["_law_found"] ["_law_found"] (defScope s__law_whole) := ⟨rfl, rfl, rfl, by decide +kernel, rfl, by decide +kernel, by decide +kernel⟩
theorem sc_law : FnScope ["_law_script", "_law_book_here", "_law_names_here", "_law_name", "_law_due", "_law_found"] ["_law_script"] (defScope s_law) := ⟨rfl, rfl, rfl, by decide +kernel, rfl, by decide +kernel, by decide +kernel⟩
theorem ok_row_of (T : Txt K mg t) : FnOk P w K mg base CX0 1 t.a_row_of t.d_row_of ["rows", "name"] (sp_row_of K) := by
  refine T.F_row_of.ok sc_row_of (len_row_of K) (fun cdv A outer s H vs Q E hr h => ⟨R_row_of K, ?_, rd_row_of h⟩)
  have S := sc_row_of
  refine pss_cons ?_ ?_
  · refine ps_for PassesOwn.never rfl ?_ ?_ ?_
    · exact (pi_any (pv 0))
    · exact (pg_name (i := 2) S.nd rfl (Or.inl rfl))
    · refine pss_one ?_
      refine ps_if ?_ ?_ ?_
      · exact (pt_cmpR (op_eqA hr.units) (pe_ix (ix_any' (hu_of hr)) (pv 2) (pe_glob rfl T.g_NAME.1 T.g_NAME.2) (fun _ _ => rfl)) (pv 1) (nomark _))
      · refine pss_one ?_
        exact (ps_ret (pv 2))
      · exact pss_nil
  refine pss_one ?_
  exact (ps_ret pe_non)
theorem ok_frame_of (T : Txt K mg t) : FnOk P w K mg base CX0 1 t.a_frame_of t.d_frame_of ["book", "name"] (sp_frame_of K) := by
  refine T.F_frame_of.ok sc_frame_of (len_frame_of K) (fun cdv A outer s H vs Q E hr h => ⟨R_frame_of K, ?_, rd_frame_of h⟩)
  have S := sc_frame_of
  refine pss_cons ?_ ?_
  · refine ps_for PassesOwn.never rfl ?_ ?_ ?_
    · exact (pi_any (pv 0))
    · exact (pg_name (i := 2) S.nd rfl (Or.inl rfl))
    · refine pss_one ?_
      refine ps_if ?_ ?_ ?_
      · exact (PW.pt (pw_and (pt_cmpR (op_eqA hr.units) (pe_ix (ix_any' (hu_of hr)) (pv 2) (pe_glob rfl T.g_SORT.1 T.g_SORT.2) (fun _ _ => rfl)) pe_str (nomark _)) (pw_and1 (pt_cmpR (op_eqA hr.units) (pe_ix (ix_any' (hu_of hr)) (pv 2) (pe_glob rfl T.g_HOST.1 T.g_HOST.2) (fun _ _ => rfl)) (pv 1) (nomark _)))))
      · refine pss_one ?_
        exact (ps_ret (pe_ix (ix_any' (hu_of hr)) (pv 2) (pe_glob rfl T.g_NAME.1 T.g_NAME.2) (fun _ _ => rfl)))
      · exact pss_nil
  refine pss_one ?_
  exact (ps_ret pe_non)
theorem ok__law_cell_at (T : Txt K mg t) : FnOk P w K mg base CX0 1 t.a__law_cell_at t.d__law_cell_at ["_law_script", "_law_k"] (sp__law_cell_at K) := by
  refine T.F__law_cell_at.ok sc__law_cell_at (len__law_cell_at K) (fun cdv A outer s H vs Q E hr h => ⟨R__law_cell_at K, ?_, rd__law_cell_at h⟩)
  have S := sc__law_cell_at
  refine pss_cons ?_ ?_
  · refine ps_if ?_ ?_ ?_
    · exact (pt_cmpR op_ltA (pv 1) (pe_callB call_lenA rfl T.z_len boot_len (pa_cons (pv 0) pa_nil)) (nomark _))
    · refine pss_one ?_
      exact (ps_ret (pe_ix (ix_any' (hu_of hr)) (pv 0) (pv 1) (fun _ _ => rfl)))
    · exact pss_nil
  refine pss_one ?_
  exact (ps_ret pe_int)
theorem ok__law_mixed (T : Txt K mg t) : FnOk P w K mg base CX0 1 t.a__law_mixed t.d__law_mixed ["_law_cell", "_law_k"] (sp__law_mixed K) := by
  refine T.F__law_mixed.ok sc__law_mixed (len__law_mixed K) (fun cdv A outer s H vs Q E hr h => ⟨R__law_mixed K, ?_, rd__law_mixed h⟩)
  have S := sc__law_mixed
  refine pss_cons ?_ ?_
  · refine ps_set (i := 2) ?_ ?_ ?_ ?_ ?_ ?_
    · exact S.nd
    · exact rfl
    · exact (Or.inl rfl)
    · exact (pe_op op_fdiv (pv 0) pe_int)
    · rfl
    · first | exact .inl rfl | exact .inr rfl
  refine pss_cons ?_ ?_
  · refine ps_if ?_ ?_ ?_
    · exact (pt_cmpR (op_eqA hr.units) (pe_op op_mod (pv 0) pe_int) pe_int (nomark _))
    · refine pss_one ?_
      exact (ps_ret (pe_op op_mod (pe_op op_shr (pv 2) (pe_op op_mulA pe_int (pv 1))) (pe_op op_shl pe_int pe_int)))
    · exact pss_nil
  refine pss_cons ?_ ?_
  · refine ps_set (i := 3) ?_ ?_ ?_ ?_ ?_ ?_
    · exact S.nd
    · exact rfl
    · exact (Or.inl rfl)
    · exact (pe_op op_addA (pe_op op_mod (pv 2) pe_int) (pe_op op_mulA pe_int (pe_op op_addA (pv 1) pe_int)))
    · rfl
    · first | exact .inl rfl | exact .inr rfl
  refine pss_cons ?_ ?_
  · refine ps_set (i := 3) ?_ ?_ ?_ ?_ ?_ ?_
    · exact S.nd
    · exact rfl
    · exact (Or.inl rfl)
    · exact (pe_op op_mod (pe_op op_addA (pe_op op_mulA (pv 3) (pv 3)) (pe_op op_mulA pe_int (pv 1))) pe_int)
    · rfl
    · first | exact .inl rfl | exact .inr rfl
  refine pss_one ?_
  exact (ps_ret (pe_op op_mod (pe_op op_addA (pe_op op_addA (pe_op op_mulA (pv 3) (pv 3)) (pe_op op_mulA pe_int (pv 1))) pe_int) pe_int))
theorem ok__law_letters (T : Txt K mg t) : FnOk P w K mg base CX0 1 t.a__law_letters t.d__law_letters ["_law_number"] (sp__law_letters K) := by
  refine T.F__law_letters.ok sc__law_letters (len__law_letters K) (fun cdv A outer s H vs Q E hr h => ⟨R__law_letters K, ?_, rd__law_letters h⟩)
  have S := sc__law_letters
  refine pss_cons ?_ ?_
  · refine ps_set (i := 1) ?_ ?_ ?_ ?_ ?_ ?_
    · exact S.nd
    · exact rfl
    · exact (Or.inl rfl)
    · exact (pe_lst pa_nil)
    · rfl
    · first | exact .inl rfl | exact .inr rfl
  refine pss_cons ?_ ?_
  · refine ps_set (i := 2) ?_ ?_ ?_ ?_ ?_ ?_
    · exact S.nd
    · exact rfl
    · exact (Or.inl rfl)
    · exact (pe_op op_addA pe_int (pe_op op_mod (pv 0) pe_int))
    · rfl
    · first | exact .inl rfl | exact .inr rfl
  refine pss_cons ?_ ?_
  · refine ps_set (i := 0) ?_ ?_ ?_ ?_ ?_ ?_
    · exact S.nd
    · exact rfl
    · exact (Or.inl rfl)
    · exact (pe_op op_fdiv (pv 0) pe_int)
    · rfl
    · first | exact .inl rfl | exact .inr rfl
  refine pss_cons ?_ ?_
  · refine ps_for PassesOwn.never rfl ?_ ?_ ?_
    · exact (pi_range1 rfl T.z_range (pa_cons (pv 2) pa_nil))
    · exact (pg_name (i := 3) S.nd rfl (Or.inl rfl))
    · refine pss_cons ?_ ?_
      · exact (ps_expr (pe_bm PySem.F.plainAttrs_list PySem.F.slot_list_append PySem.F.type_list_append mt_append (pv 1) (pa_cons (pe_op op_mod (pv 0) pe_int) pa_nil)))
      refine pss_one ?_
      refine ps_set (i := 0) ?_ ?_ ?_ ?_ ?_ ?_
      · exact S.nd
      · exact rfl
      · exact (Or.inl rfl)
      · exact (pe_op op_fdiv (pv 0) pe_int)
      · rfl
      · first | exact .inl rfl | exact .inr rfl
  refine pss_one ?_
  exact (ps_ret (pv 1))
theorem ok__law_row (T : Txt K mg t) : FnOk P w K mg base CX0 1 t.a__law_row t.d__law_row ["_law_book_here", "_law_name"] (sp__law_row K) := by
  refine T.F__law_row.ok sc__law_row (len__law_row K) (fun cdv A outer s H vs Q E hr h => ⟨R__law_row K, ?_, rd__law_row h⟩)
  have S := sc__law_row
  refine pss_cons ?_ ?_
  · refine ps_for PassesOwn.never rfl ?_ ?_ ?_
    · exact (pi_any (pv 0))
    · exact (pg_name (i := 2) S.nd rfl (Or.inl rfl))
    · refine pss_one ?_
      refine ps_if ?_ ?_ ?_
      · exact (pt_cmpR (op_eqA hr.units) (pe_ix (ix_any' (hu_of hr)) (pv 2) pe_int (fun _ _ => rfl)) (pv 1) (nomark _))
      · refine pss_one ?_
        exact (ps_ret (pv 2))
      · exact pss_nil
  refine pss_one ?_
  exact (ps_ret pe_non)
theorem ok__law_frame (T : Txt K mg t) : FnOk P w K mg base CX0 1 t.a__law_frame t.d__law_frame ["_law_book_here", "_law_name"] (sp__law_frame K) := by
  refine T.F__law_frame.ok sc__law_frame (len__law_frame K) (fun cdv A outer s H vs Q E hr h => ⟨R__law_frame K, ?_, rd__law_frame h⟩)
  have S := sc__law_frame
  refine pss_cons ?_ ?_
  · refine ps_for PassesOwn.never rfl ?_ ?_ ?_
    · exact (pi_any (pv 0))
    · exact (pg_name (i := 2) S.nd rfl (Or.inl rfl))
    · refine pss_one ?_
      refine ps_if ?_ ?_ ?_
      · exact (PW.pt (pw_and (pt_cmpR (op_eqA hr.units) (pe_ix (ix_any' (hu_of hr)) (pv 2) pe_int (fun _ _ => rfl)) (pv 1) (nomark _)) (pw_and1 (pt_cmpR (op_neA hr.units) (pv 1) pe_str (nomark _)))))
      · refine pss_one ?_
        exact (ps_ret (pe_ix (ix_any' (hu_of hr)) (pv 2) pe_int (fun _ _ => rfl)))
      · exact pss_nil
  refine pss_one ?_
  exact (ps_ret pe_str)
theorem ok__law_whole (T : Txt K mg t) : FnOk P w K mg base CX0 1 t.a__law_whole t.d__law_whole ["_law_found"] (sp__law_whole K) := by
  refine T.F__law_whole.ok sc__law_whole (len__law_whole K) (fun cdv A outer s H vs Q E hr h => ⟨R__law_whole K, ?_, rd__law_whole h⟩)
  have S := sc__law_whole
  refine pss_one ?_
  exact (ps_ret (pe_and (pe_callB call_isinstanceA rfl T.z_isinstance boot_isinstance (pa_cons (pv 0) (pa_cons (pe_bltn rfl T.z_int boot_int rfl) pa_nil))) (pe_one (pe_not (pe_callB call_isinstanceA rfl T.z_isinstance boot_isinstance (pa_cons (pv 0) (pa_cons (pe_bltn rfl T.z_bool boot_bool rfl) pa_nil)))))))
theorem ok_sort_of (T : Txt K mg t) : FnOk P w K mg base CX0 2 t.a_sort_of t.d_sort_of ["book", "name"] (sp_sort_of K) := by
  refine T.F_sort_of.ok sc_sort_of (len_sort_of K) (fun cdv A outer s H vs Q E hr h => ⟨R_sort_of K, ?_, rd_sort_of h⟩)
  have S := sc_sort_of
  refine pss_cons ?_ ?_
  · refine ps_set (i := 2) ?_ ?_ ?_ ?_ ?_ ?_
    · exact S.nd
    · exact rfl
    · exact (Or.inl rfl)
    · exact (pe_call (ok_row_of T) (hr.mono (by decide)) rfl T.m_row_of T.F_row_of.kp T.b_row_of .nil pass0 (pa_cons (pv 0) (pa_cons (pv 1) pa_nil)))
    · rfl
    · first | exact .inl rfl | exact .inr rfl
  refine pss_one ?_
  exact (ps_ret (pe_ifExp (pt_cmpR op_isA (pv 2) pe_non (nomark _)) pe_non (pe_ix (ix_any' (hu_of hr)) (pv 2) (pe_glob rfl T.g_SORT.1 T.g_SORT.2) (fun _ _ => rfl))))
theorem ok_belongs (T : Txt K mg t) : FnOk P w K mg base CX0 2 t.a_belongs t.d_belongs ["book", "name", "frame"] (sp_belongs K) := by
  refine T.F_belongs.ok sc_belongs (len_belongs K) (fun cdv A outer s H vs Q E hr h => ⟨R_belongs K, ?_, rd_belongs h⟩)
  have S := sc_belongs
  refine pss_cons ?_ ?_
  · refine ps_set (i := 3) ?_ ?_ ?_ ?_ ?_ ?_
    · exact S.nd
    · exact rfl
    · exact (Or.inl rfl)
    · exact (pe_call (ok_frame_of T) (hr.mono (by decide)) rfl T.m_frame_of T.F_frame_of.kp T.b_frame_of .nil pass0 (pa_cons (pv 0) (pa_cons (pv 1) pa_nil)))
    · rfl
    · first | exact .inl rfl | exact .inr rfl
  refine pss_cons ?_ ?_
  · refine ps_while PassesOwn.never ?_ ?_
    · exact (pt_cmpR op_isnotA (pv 3) pe_non (nomark _))
    · refine pss_cons ?_ ?_
      · refine ps_if ?_ ?_ ?_
        · exact (pt_cmpR (op_eqA hr.units) (pv 3) (pv 2) (nomark _))
        · refine pss_one ?_
          exact (ps_ret pe_bl)
        · exact pss_nil
      refine pss_one ?_
      refine ps_set (i := 3) ?_ ?_ ?_ ?_ ?_ ?_
      · exact S.nd
      · exact rfl
      · exact (Or.inl rfl)
      · exact (pe_call (ok_frame_of T) (hr.mono (by decide)) rfl T.m_frame_of T.F_frame_of.kp T.b_frame_of .nil pass0 (pa_cons (pv 0) (pa_cons (pv 3) pa_nil)))
      · rfl
      · first | exact .inl rfl | exact .inr rfl
  refine pss_one ?_
  exact (ps_ret pe_bl)
theorem ok__law_names (T : Txt K mg t) : FnOk P w K mg base CX0 2 t.a__law_names t.d__law_names ["_law_cell"] (sp__law_names K) := by
  refine T.F__law_names.ok sc__law_names (len__law_names K) (fun cdv A outer s H vs Q E hr h => ⟨R__law_names K, ?_, rd__law_names h⟩)
  have S := sc__law_names
  refine pss_cons ?_ ?_
  · refine ps_set (i := 1) ?_ ?_ ?_ ?_ ?_ ?_
    · exact S.nd
    · exact rfl
    · exact (Or.inr rfl)
    · exact pe_str
    · rfl
    · first | exact .inl rfl | exact .inr rfl
  refine pss_cons ?_ ?_
  · refine ps_set (i := 2) ?_ ?_ ?_ ?_ ?_ ?_
    · exact S.nd
    · exact rfl
    · exact (Or.inr rfl)
    · exact (pe_lst pa_nil)
    · rfl
    · first | exact .inl rfl | exact .inr rfl
  refine pss_cons ?_ ?_
  · refine ps_for PassesOwn.never rfl ?_ ?_ ?_
    · exact (pi_range1 rfl T.z_range (pa_cons pe_int pa_nil))
    · exact (pg_name (i := 3) S.nd rfl (Or.inl rfl))
    · refine pss_cons ?_ ?_
      · refine ps_set (i := 4) ?_ ?_ ?_ ?_ ?_ ?_
        · exact S.nd
        · exact rfl
        · exact (Or.inl rfl)
        · exact (pe_call (ok__law_letters T) (hr.mono (by decide)) rfl T.m__law_letters T.F__law_letters.kp T.b__law_letters .nil pass0 (pa_cons (pe_op op_mod (pe_op op_shr (pe_op op_fdiv (pv 0) pe_int) (pe_op op_mulA pe_int (pv 3))) (pe_op op_shl pe_int pe_int)) pa_nil))
        · rfl
        · first | exact .inl rfl | exact .inr rfl
      refine pss_cons ?_ ?_
      · refine ps_if ?_ ?_ ?_
        · exact (pt_cmpR (op_eqA hr.units) (pe_op op_mod (pv 0) pe_int) pe_int (nomark _))
        · refine pss_cons ?_ ?_
          · refine ps_set (i := 4) ?_ ?_ ?_ ?_ ?_ ?_
            · exact S.nd
            · exact rfl
            · exact (Or.inl rfl)
            · exact (pe_call (ok__law_letters T) (hr.mono (by decide)) rfl T.m__law_letters T.F__law_letters.kp T.b__law_letters .nil pass0 (pa_cons (pe_call (ok__law_mixed T) (hr.mono (by decide)) rfl T.m__law_mixed T.F__law_mixed.kp T.b__law_mixed .nil pass0 (pa_cons (pv 0) (pa_cons pe_int pa_nil))) pa_nil))
            · rfl
            · first | exact .inl rfl | exact .inr rfl
          refine pss_one ?_
          exact (ps_asg (pe_op op_mod (pe_op op_addA (pe_ix (ix_any' (hu_of hr)) (pv 4) (pe_un un_neg pe_int) (fun _ _ => rfl)) (pv 3)) pe_int) (pg_sub (pv 4) (pe_un un_neg pe_int) (set_any' (hu_of hr))))
        · exact pss_nil
      refine pss_cons ?_ ?_
      · refine ps_if ?_ ?_ ?_
        · exact (pt_cmpR (op_eqA hr.units) (pe_op op_mod (pv 0) pe_int) pe_int (nomark _))
        · refine pss_cons ?_ ?_
          · refine ps_set (i := 4) ?_ ?_ ?_ ?_ ?_ ?_
            · exact S.nd
            · exact rfl
            · exact (Or.inl rfl)
            · exact (pe_slice sl_any (pe_call (ok__law_letters T) (hr.mono (by decide)) rfl T.m__law_letters T.F__law_letters.kp T.b__law_letters .nil pass0 (pa_cons (pe_op op_addA pe_int (pe_op op_mulA pe_int (pe_call (ok__law_mixed T) (hr.mono (by decide)) rfl T.m__law_mixed T.F__law_mixed.kp T.b__law_mixed .nil pass0 (pa_cons (pv 0) (pa_cons pe_int pa_nil))))) pa_nil)) po_none (po_some (pe_op op_addA (pe_op op_mod (pv 3) pe_int) pe_int)))
            · rfl
            · first | exact .inl rfl | exact .inr rfl
          refine pss_one ?_
          exact (ps_asg (pe_op op_mod (pe_op op_addA (pe_ix (ix_any' (hu_of hr)) (pv 4) pe_int (fun _ _ => rfl)) (pe_callTy call_intA rfl T.z_int boot_int (pa_cons (pe_cmpR op_gtA (pv 3) pe_int (nomark _)) pa_nil))) pe_int) (pg_sub (pv 4) pe_int (set_any' (hu_of hr))))
        · exact pss_nil
      refine pss_cons ?_ ?_
      · refine ps_set (i := 5) ?_ ?_ ?_ ?_ ?_ ?_
        · exact S.nd
        · exact rfl
        · exact (Or.inl rfl)
        · exact (pe_bm PySem.F.plainAttrs_str PySem.F.slot_str_join PySem.F.type_str_join mt_join pe_str (pa_cons (pe_comp rfl (comp_scope (osc := defScope s__law_names) (ON := ["_law_cell", "_law_letters_here", "_law_names_here", "_law_k", "_law_signs", "_law_name", "_law_spare"]) (N := ["_law_letters_here", "_law_j"]) (fr := [some 1, none]) (by decide +kernel) rfl rfl) (pi_any (pv 4)) (fun _ _ _ _ _ _ => (pg_name (i := 1) (show List.Nodup (["_law_letters_here", "_law_j"] : List Str) by decide +kernel) rfl (Or.inl rfl))) tg_name (fun _ _ _ _ _ _ => pts_nil) (fun _ _ _ _ _ _ => (pe_ix (ix_any' (hu_of hr)) (pv 0) (pv 1) (fun _ _ => rfl)))) pa_nil))
        · rfl
        · first | exact .inl rfl | exact .inr rfl
      refine pss_cons ?_ ?_
      · exact (ps_setC (i := 6) S.nd rfl rfl rfl (comp_scope (osc := defScope s__law_names) (ON := ["_law_cell", "_law_letters_here", "_law_names_here", "_law_k", "_law_signs", "_law_name", "_law_spare"]) (N := ["_law_names_here", "_law_letter"]) (fr := [some 2, none]) (by decide +kernel) rfl rfl) (pi_strs (pv 1)) (fun _ _ _ _ _ _ => (pg_name (i := 1) (show List.Nodup (["_law_names_here", "_law_letter"] : List Str) by decide +kernel) rfl (Or.inl rfl))) tg_name (fun _ _ _ _ _ _ => (pts_one (pt_cmpR (op_notinB (hu_of hr)) (pe_op op_mulA (pv 1) pe_int) (pv 0) (by with_unfolding_all rfl)))) (fun _ _ _ _ _ _ => (pe_op op_mulA (pv 1) pe_int)))
      refine pss_one ?_
      exact (ps_expr (pe_bm PySem.F.plainAttrs_list PySem.F.slot_list_append PySem.F.type_list_append mt_append (pv 2) (pa_cons (pe_ix (ix_any' (hu_of hr)) (pe_lst (pa_cons (pv 5) (pa_cons (pe_ix (ix_any' (hu_of hr)) (pv 6) pe_int (fun _ _ => rfl)) pa_nil))) (pe_callTy call_intA rfl T.z_int boot_int (pa_cons (pe_cmpR (op_inB (hu_of hr)) (pv 5) (pe_op op_addA (pv 2) (pe_lst (pa_cons pe_str (pa_cons pe_str pa_nil)))) (by with_unfolding_all rfl)) pa_nil)) (fun _ _ => rfl)) pa_nil)))
  refine pss_one ?_
  exact (ps_ret (pv 2))
theorem ok__law_sorts (T : Txt K mg t) : FnOk P w K mg base CX0 2 t.a__law_sorts t.d__law_sorts ["_law_script", "_law_names_here", "_law_count"] (sp__law_sorts K) := by
  refine T.F__law_sorts.ok sc__law_sorts (len__law_sorts K) (fun cdv A outer s H vs Q E hr h => ⟨R__law_sorts K, ?_, rd__law_sorts h⟩)
  have S := sc__law_sorts
  refine pss_cons ?_ ?_
  · refine ps_set (i := 3) ?_ ?_ ?_ ?_ ?_ ?_
    · exact S.nd
    · exact rfl
    · exact (Or.inr rfl)
    · refine pe_lst ?_
      with_reducible refine pa_s1 ?_
      with_reducible refine pa_s1 ?_
      with_reducible refine pa_s1 ?_
      with_reducible refine pa_s1 ?_
      with_reducible refine pa_s1 ?_
      with_reducible refine pa_s1 ?_
      with_reducible refine pa_s1 ?_
      with_reducible refine pa_s1 ?_
      with_reducible refine pa_s1 ?_
      exact pa_s0
    · rfl
    · first | exact .inl rfl | exact .inr rfl
  refine pss_cons ?_ ?_
  · refine ps_set (i := 4) ?_ ?_ ?_ ?_ ?_ ?_
    · exact S.nd
    · exact rfl
    · exact (Or.inr rfl)
    · exact (pe_comp rfl (comp_scope (osc := defScope s__law_sorts) (ON := ["_law_script", "_law_names_here", "_law_count", "_law_some", "_law_sorts_here", "_law_hosts", "_law_taken", "_law_k", "_law_able", "_law_j"]) (N := ["_law_some", "_law_script", "_law_k"]) (fr := [some 3, some 0, none]) (by decide +kernel) rfl rfl) (pi_range1 rfl T.z_range (pa_cons (pv 2) pa_nil)) (fun _ _ _ _ _ _ => (pg_name (i := 2) (show List.Nodup (["_law_some", "_law_script", "_law_k"] : List Str) by decide +kernel) rfl (Or.inl rfl))) tg_name (fun _ _ _ _ _ _ => pts_nil) (fun _ _ _ _ _ _ => (pe_ix (ix_any' (hu_of hr)) (pv 0) (pe_op op_mod (pe_call (ok__law_mixed T) (hr.mono (by decide)) rfl T.m__law_mixed T.F__law_mixed.kp T.b__law_mixed .nil pass0 (pa_cons (pe_call (ok__law_cell_at T) (hr.mono (by decide)) rfl T.m__law_cell_at T.F__law_cell_at.kp T.b__law_cell_at .nil pass0 (pa_cons (pv 1) (pa_cons (pe_op op_addA pe_int (pv 2)) pa_nil))) (pa_cons pe_int pa_nil))) pe_int) (fun _ _ => rfl))))
    · rfl
    · first | exact .inl rfl | exact .inr rfl
  refine pss_cons ?_ ?_
  · exact (ps_setC (i := 5) S.nd rfl rfl rfl (comp_scope (osc := defScope s__law_sorts) (ON := ["_law_script", "_law_names_here", "_law_count", "_law_some", "_law_sorts_here", "_law_hosts", "_law_taken", "_law_k", "_law_able", "_law_j"]) (N := ["_law_k"]) (fr := [none]) (by decide +kernel) rfl rfl) (pi_range1 rfl T.z_range (pa_cons (pv 2) pa_nil)) (fun _ _ _ _ _ _ => (pg_name (i := 0) (show List.Nodup (["_law_k"] : List Str) by decide +kernel) rfl (Or.inl rfl))) tg_name (fun _ _ _ _ _ _ => pts_nil) (fun _ _ _ _ _ _ => pe_str))
  refine pss_cons ?_ ?_
  · refine ps_set (i := 6) ?_ ?_ ?_ ?_ ?_ ?_
    · exact S.nd
    · exact rfl
    · exact (Or.inr rfl)
    · exact (pe_lst pa_nil)
    · rfl
    · first | exact .inl rfl | exact .inr rfl
  refine pss_cons ?_ ?_
  · refine ps_for PassesOwn.never rfl ?_ ?_ ?_
    · exact (pi_range1 rfl T.z_range (pa_cons (pv 2) pa_nil))
    · exact (pg_name (i := 7) S.nd rfl (Or.inl rfl))
    · refine pss_cons ?_ ?_
      · exact (ps_setC (i := 8) S.nd rfl rfl rfl (comp_scope (osc := defScope s__law_sorts) (ON := ["_law_script", "_law_names_here", "_law_count", "_law_some", "_law_sorts_here", "_law_hosts", "_law_taken", "_law_k", "_law_able", "_law_j"]) (N := ["_law_taken", "_law_sorts_here", "_law_j"]) (fr := [some 6, some 4, none]) (by decide +kernel) rfl rfl) (pi_range2 rfl T.z_range (pa_cons (pe_op op_addA (pv 7) pe_int) (pa_cons (pv 2) pa_nil))) (fun _ _ _ _ _ _ => (pg_name (i := 2) (show List.Nodup (["_law_taken", "_law_sorts_here", "_law_j"] : List Str) by decide +kernel) rfl (Or.inl rfl))) tg_name (fun _ _ _ _ _ _ => (pts_one (PW.pt (pw_and (pt_cmpR (op_inB (hu_of hr)) (pe_ix (ix_any' (hu_of hr)) (pv 1) (pv 2) (fun _ _ => rfl)) (pe_tup (pa_cons pe_str (pa_cons pe_str pa_nil))) (by with_unfolding_all rfl)) (pw_and1 (pt_cmpR (op_notinB (hu_of hr)) (pv 2) (pv 0) (by with_unfolding_all rfl))))))) (fun _ _ _ _ _ _ => (pv 2)))
      refine pss_cons ?_ ?_
      · refine ps_if ?_ ?_ ?_
        · exact (PW.pt (pw_and (pt_cmpR (op_eqA hr.units) (pe_ix (ix_any' (hu_of hr)) (pv 4) (pv 7) (fun _ _ => rfl)) pe_str (nomark _)) (pw_and1 (pt_cmpR (op_eqA hr.units) (pv 8) (pe_lst pa_nil) (nomark _)))))
        · refine pss_one ?_
          exact (ps_asg (pe_ix (ix_any' (hu_of hr)) (pe_lst (pa_cons pe_str (pa_cons pe_str pa_nil))) (pe_callTy call_intA rfl T.z_int boot_int (pa_cons (pe_cmpR (op_inB (hu_of hr)) (pv 7) (pv 6) (by with_unfolding_all rfl)) pa_nil)) (fun _ _ => rfl)) (pg_sub (pv 4) (pv 7) (set_any' (hu_of hr))))
        · exact pss_nil
      refine pss_one ?_
      refine ps_if ?_ ?_ ?_
      · exact (pt_cmpR (op_eqA hr.units) (pe_ix (ix_any' (hu_of hr)) (pv 4) (pv 7) (fun _ _ => rfl)) pe_str (nomark _))
      · refine pss_cons ?_ ?_
        · refine ps_set (i := 9) ?_ ?_ ?_ ?_ ?_ ?_
          · exact S.nd
          · exact rfl
          · exact (Or.inl rfl)
          · exact (pe_ix (ix_any' (hu_of hr)) (pv 8) (pe_op op_mod (pe_call (ok__law_mixed T) (hr.mono (by decide)) rfl T.m__law_mixed T.F__law_mixed.kp T.b__law_mixed .nil pass0 (pa_cons (pe_call (ok__law_cell_at T) (hr.mono (by decide)) rfl T.m__law_cell_at T.F__law_cell_at.kp T.b__law_cell_at .nil pass0 (pa_cons (pv 0) (pa_cons (pe_op op_addA pe_int (pv 7)) pa_nil))) (pa_cons pe_int pa_nil))) (pe_callB call_lenA rfl T.z_len boot_len (pa_cons (pv 8) pa_nil))) (fun _ _ => rfl))
          · rfl
          · first | exact .inl rfl | exact .inr rfl
        refine pss_cons ?_ ?_
        · exact (ps_expr (pe_bm PySem.F.plainAttrs_list PySem.F.slot_list_append PySem.F.type_list_append mt_append (pv 6) (pa_cons (pv 9) pa_nil)))
        refine pss_one ?_
        exact (ps_asg (pe_ix (ix_any' (hu_of hr)) (pv 1) (pv 9) (fun _ _ => rfl)) (pg_sub (pv 5) (pv 7) (set_any' (hu_of hr))))
      · exact pss_nil
  refine pss_one ?_
  exact (ps_ret (pe_tup (pa_cons (pv 4) (pa_cons (pv 5) (pa_cons (pv 6) pa_nil)))))
theorem ok__law_fence (T : Txt K mg t) : FnOk P w K mg base CX0 2 t.a__law_fence t.d__law_fence ["_law_book_here", "_law_name"] (sp__law_fence K) := by
  refine T.F__law_fence.ok sc__law_fence (len__law_fence K) (fun cdv A outer s H vs Q E hr h => ⟨R__law_fence K, ?_, rd__law_fence h⟩)
  have S := sc__law_fence
  refine pss_cons ?_ ?_
  · refine ps_set (i := 2) ?_ ?_ ?_ ?_ ?_ ?_
    · exact S.nd
    · exact rfl
    · exact (Or.inl rfl)
    · exact (pe_call (ok__law_row T) (hr.mono (by decide)) rfl T.m__law_row T.F__law_row.kp T.b__law_row .nil pass0 (pa_cons (pv 0) (pa_cons (pv 1) pa_nil)))
    · rfl
    · first | exact .inl rfl | exact .inr rfl
  refine pss_one ?_
  exact (ps_ret (pe_and (pe_cmpR op_isnotA (pv 2) pe_non (nomark _)) (pe_one (pe_cmpR (op_inB (hu_of hr)) (pe_ix (ix_any' (hu_of hr)) (pv 2) pe_int (fun _ _ => rfl)) (pe_tup (pa_cons pe_str (pa_cons pe_str pa_nil))) (by with_unfolding_all rfl)))))
theorem ok__law_belongs (T : Txt K mg t) : FnOk P w K mg base CX0 2 t.a__law_belongs t.d__law_belongs ["_law_book_here", "_law_name", "_law_frame_here"] (sp__law_belongs K) := by
  refine T.F__law_belongs.ok sc__law_belongs (len__law_belongs K) (fun cdv A outer s H vs Q E hr h => ⟨R__law_belongs K, ?_, rd__law_belongs h⟩)
  have S := sc__law_belongs
  refine pss_cons ?_ ?_
  · refine ps_set (i := 3) ?_ ?_ ?_ ?_ ?_ ?_
    · exact S.nd
    · exact rfl
    · exact (Or.inl rfl)
    · exact (pe_call (ok__law_frame T) (hr.mono (by decide)) rfl T.m__law_frame T.F__law_frame.kp T.b__law_frame .nil pass0 (pa_cons (pv 0) (pa_cons (pv 1) pa_nil)))
    · rfl
    · first | exact .inl rfl | exact .inr rfl
  refine pss_cons ?_ ?_
  · refine ps_while PassesOwn.never ?_ ?_
    · exact (pt_cmpR (op_neA hr.units) (pv 3) pe_str (nomark _))
    · refine pss_cons ?_ ?_
      · refine ps_if ?_ ?_ ?_
        · exact (pt_cmpR (op_eqA hr.units) (pv 3) (pv 2) (nomark _))
        · refine pss_one ?_
          exact (ps_ret pe_bl)
        · exact pss_nil
      refine pss_one ?_
      refine ps_set (i := 3) ?_ ?_ ?_ ?_ ?_ ?_
      · exact S.nd
      · exact rfl
      · exact (Or.inl rfl)
      · exact (pe_call (ok__law_frame T) (hr.mono (by decide)) rfl T.m__law_frame T.F__law_frame.kp T.b__law_frame .nil pass0 (pa_cons (pv 0) (pa_cons (pv 3) pa_nil)))
      · rfl
      · first | exact .inl rfl | exact .inr rfl
  refine pss_one ?_
  exact (ps_ret pe_bl)
theorem ok_is_wall (T : Txt K mg t) : FnOk P w K mg base CX0 3 t.a_is_wall t.d_is_wall ["book", "name"] (sp_is_wall K) := by
  refine T.F_is_wall.ok sc_is_wall (len_is_wall K) (fun cdv A outer s H vs Q E hr h => ⟨R_is_wall K t.c_WALL_SORTS, ?_, rd_is_wall T.q_WALL_SORTS h⟩)
  have S := sc_is_wall
  refine pss_one ?_
  exact (ps_ret (pe_cmpR (op_inB (hu_of hr)) (pe_call (ok_sort_of T) (hr.mono (by decide)) rfl T.m_sort_of T.F_sort_of.kp T.b_sort_of .nil pass0 (pa_cons (pv 0) (pa_cons (pv 1) pa_nil))) (pe_glob rfl T.g_WALL_SORTS rfl) (by with_unfolding_all rfl)))
theorem ok__law_book (T : Txt K mg t) : FnOk P w K mg base CX0 3 t.a__law_book t.d__law_book ["_law_script"] (sp__law_book K) := by
  refine T.F__law_book.ok sc__law_book (len__law_book K) (fun cdv A outer s H vs Q E hr h => ⟨R__law_book K, ?_, rd__law_book h⟩)
  have S := sc__law_book
  refine pss_cons ?_ ?_
  · refine ps_set (i := 1) ?_ ?_ ?_ ?_ ?_ ?_
    · exact S.nd
    · exact rfl
    · exact (Or.inr rfl)
    · exact (pe_call (ok__law_names T) (hr.mono (by decide)) rfl T.m__law_names T.F__law_names.kp T.b__law_names .nil pass0 (pa_cons (pe_call (ok__law_cell_at T) (hr.mono (by decide)) rfl T.m__law_cell_at T.F__law_cell_at.kp T.b__law_cell_at .nil pass0 (pa_cons (pv 0) (pa_cons pe_int pa_nil))) pa_nil))
    · rfl
    · first | exact .inl rfl | exact .inr rfl
  refine pss_cons ?_ ?_
  · refine ps_set (i := 2) ?_ ?_ ?_ ?_ ?_ ?_
    · exact S.nd
    · exact rfl
    · exact (Or.inl rfl)
    · exact (pe_op op_addA pe_int (pe_op op_mod (pe_call (ok__law_cell_at T) (hr.mono (by decide)) rfl T.m__law_cell_at T.F__law_cell_at.kp T.b__law_cell_at .nil pass0 (pa_cons (pv 0) (pa_cons pe_int pa_nil))) pe_int))
    · rfl
    · first | exact .inl rfl | exact .inr rfl
  refine pss_cons ?_ ?_
  · exact (ps_asg (pe_call (ok__law_sorts T) (hr.mono (by decide)) rfl T.m__law_sorts T.F__law_sorts.kp T.b__law_sorts .nil pass0 (pa_cons (pv 0) (pa_cons (pv 1) (pa_cons (pv 2) pa_nil)))) (pg_tup rfl (pgs_cons (pg_name (i := 3) S.nd rfl (Or.inr rfl)) (pgs_cons (pg_name (i := 4) S.nd rfl (Or.inl rfl)) (pgs_cons (pg_name (i := 5) S.nd rfl (Or.inr rfl)) pgs_nil)))))
  refine pss_cons ?_ ?_
  · refine ps_set (i := 6) ?_ ?_ ?_ ?_ ?_ ?_
    · exact S.nd
    · exact rfl
    · exact (Or.inl rfl)
    · exact (pe_lst pa_nil)
    · rfl
    · first | exact .inl rfl | exact .inr rfl
  refine pss_cons ?_ ?_
  · refine ps_for PassesOwn.never rfl ?_ ?_ ?_
    · exact (pi_range1 rfl T.z_range (pa_cons (pv 2) pa_nil))
    · exact (pg_name (i := 7) S.nd rfl (Or.inr rfl))
    · refine pss_cons ?_ ?_
      · refine ps_set (i := 8) ?_ ?_ ?_ ?_ ?_ ?_
        · exact S.nd
        · exact rfl
        · exact (Or.inr rfl)
        · exact (pe_call (ok__law_cell_at T) (hr.mono (by decide)) rfl T.m__law_cell_at T.F__law_cell_at.kp T.b__law_cell_at .nil pass0 (pa_cons (pv 0) (pa_cons (pe_op op_addA pe_int (pv 7)) pa_nil)))
        · rfl
        · first | exact .inl rfl | exact .inr rfl
      refine pss_cons ?_ ?_
      · exact (ps_setC (i := 9) S.nd rfl rfl rfl (comp_scope (osc := defScope s__law_book) (ON := ["_law_script", "_law_names_here", "_law_count", "_law_sorts_here", "_law_hosts", "_law_taken", "_law_rows", "_law_k", "_law_own", "_law_able", "_law_shuts", "_law_bars", "_law_row_here"]) (N := ["_law_sorts_here", "_law_j"]) (fr := [some 3, none]) (by decide +kernel) rfl rfl) (pi_range1 rfl T.z_range (pa_cons (pv 2) pa_nil)) (fun _ _ _ _ _ _ => (pg_name (i := 1) (show List.Nodup (["_law_sorts_here", "_law_j"] : List Str) by decide +kernel) rfl (Or.inl rfl))) tg_name (fun _ _ _ _ _ _ => (pts_one (pt_cmpR (op_inB (hu_of hr)) (pe_ix (ix_any' (hu_of hr)) (pv 0) (pv 1) (fun _ _ => rfl)) (pe_tup (pa_cons pe_str (pa_cons pe_str pa_nil))) (by with_unfolding_all rfl)))) (fun _ _ _ _ _ _ => (pv 1)))
      refine pss_cons ?_ ?_
      · exact (ps_setC (i := 10) S.nd rfl rfl rfl (comp_scope (osc := defScope s__law_book) (ON := ["_law_script", "_law_names_here", "_law_count", "_law_sorts_here", "_law_hosts", "_law_taken", "_law_rows", "_law_k", "_law_own", "_law_able", "_law_shuts", "_law_bars", "_law_row_here"]) (N := ["_law_names_here", "_law_taken", "_law_k", "_law_own", "_law_j"]) (fr := [some 1, some 5, some 7, some 8, none]) (by decide +kernel) rfl rfl) (pi_any (pv 9)) (fun _ _ _ _ _ _ => (pg_name (i := 4) (show List.Nodup (["_law_names_here", "_law_taken", "_law_k", "_law_own", "_law_j"] : List Str) by decide +kernel) rfl (Or.inl rfl))) tg_name (fun _ _ _ _ _ _ => (pts_one (PW.pt (pw_and (pt_cmpR (op_notinB (hu_of hr)) (pv 4) (pv 1) (by with_unfolding_all rfl)) (pw_and (pt_cmpR (op_notinB (hu_of hr)) (pv 2) (pv 1) (by with_unfolding_all rfl)) (pw_and1 (pt_cmpR (op_eqA hr.units) (pe_op op_mod (pe_call (ok__law_mixed T) (hr.mono (by decide)) rfl T.m__law_mixed T.F__law_mixed.kp T.b__law_mixed .nil pass0 (pa_cons (pv 3) (pa_cons (pe_op op_addA pe_int (pv 4)) pa_nil))) pe_int) pe_int (nomark _)))))))) (fun _ _ _ _ _ _ => (pe_ix (ix_any' (hu_of hr)) (pv 0) (pv 4) (fun _ _ => rfl))))
      refine pss_cons ?_ ?_
      · exact (ps_setC (i := 11) S.nd rfl rfl rfl (comp_scope (osc := defScope s__law_book) (ON := ["_law_script", "_law_names_here", "_law_count", "_law_sorts_here", "_law_hosts", "_law_taken", "_law_rows", "_law_k", "_law_own", "_law_able", "_law_shuts", "_law_bars", "_law_row_here"]) (N := ["_law_names_here", "_law_own", "_law_j"]) (fr := [some 1, some 8, none]) (by decide +kernel) rfl rfl) (pi_any (pv 9)) (fun _ _ _ _ _ _ => (pg_name (i := 2) (show List.Nodup (["_law_names_here", "_law_own", "_law_j"] : List Str) by decide +kernel) rfl (Or.inl rfl))) tg_name (fun _ _ _ _ _ _ => (pts_one (pt_cmpR (op_eqA hr.units) (pe_op op_mod (pe_call (ok__law_mixed T) (hr.mono (by decide)) rfl T.m__law_mixed T.F__law_mixed.kp T.b__law_mixed .nil pass0 (pa_cons (pv 1) (pa_cons (pe_op op_addA pe_int (pv 2)) pa_nil))) pe_int) pe_int (nomark _)))) (fun _ _ _ _ _ _ => (pe_ix (ix_any' (hu_of hr)) (pv 0) (pv 2) (fun _ _ => rfl))))
      refine pss_cons ?_ ?_
      · refine ps_set (i := 12) ?_ ?_ ?_ ?_ ?_ ?_
        · exact S.nd
        · exact rfl
        · exact (Or.inl rfl)
        · exact (pe_tup (pa_cons (pe_ix (ix_any' (hu_of hr)) (pv 1) (pv 7) (fun _ _ => rfl)) (pa_cons (pe_ix (ix_any' (hu_of hr)) (pv 3) (pv 7) (fun _ _ => rfl)) (pa_cons (pe_ix (ix_any' (hu_of hr)) (pv 4) (pv 7) (fun _ _ => rfl)) (pa_cons (pe_callTy call_tupleA rfl T.z_tuple boot_tuple (pa_cons (pe_callB call_sortedA rfl T.z_sorted boot_sorted (pa_cons (pv 10) pa_nil)) pa_nil)) (pa_cons (pe_callTy call_tupleA rfl T.z_tuple boot_tuple (pa_cons (pe_callB call_sortedA rfl T.z_sorted boot_sorted (pa_cons (pv 11) pa_nil)) pa_nil)) pa_nil))))))
        · rfl
        · first | exact .inl rfl | exact .inr rfl
      refine pss_one ?_
      exact (ps_expr (pe_bm PySem.F.plainAttrs_list PySem.F.slot_list_insert PySem.F.type_list_insert mt_insert (pv 6) (pa_cons (pe_op op_mod (pe_call (ok__law_mixed T) (hr.mono (by decide)) rfl T.m__law_mixed T.F__law_mixed.kp T.b__law_mixed .nil pass0 (pa_cons (pv 8) (pa_cons pe_int pa_nil))) (pe_op op_addA (pv 7) pe_int)) (pa_cons (pv 12) pa_nil))))
  refine pss_one ?_
  exact (ps_ret (pe_callTy call_tupleA rfl T.z_tuple boot_tuple (pa_cons (pv 6) pa_nil)))
theorem ok__law_near (T : Txt K mg t) : FnOk P w K mg base CX0 3 t.a__law_near t.d__law_near ["_law_book_here", "_law_names_here"] (sp__law_near K) := by
  refine T.F__law_near.ok sc__law_near (len__law_near K) (fun cdv A outer s H vs Q E hr h => ⟨R__law_near K, ?_, rd__law_near h⟩)
  have S := sc__law_near
  refine pss_cons ?_ ?_
  · refine ps_set (i := 2) ?_ ?_ ?_ ?_ ?_ ?_
    · exact S.nd
    · exact rfl
    · exact (Or.inl rfl)
    · exact (pe_lst pa_nil)
    · rfl
    · first | exact .inl rfl | exact .inr rfl
  refine pss_cons ?_ ?_
  · refine ps_for PassesOwn.never rfl ?_ ?_ ?_
    · exact (pi_any (pv 1))
    · exact (pg_name (i := 3) S.nd rfl (Or.inl rfl))
    · refine pss_cons ?_ ?_
      · exact (ps_expr (pe_bm PySem.F.plainAttrs_list PySem.F.slot_list_append PySem.F.type_list_append mt_append (pv 2) (pa_cons (pv 3) pa_nil)))
      refine pss_one ?_
      refine ps_if ?_ ?_ ?_
      · exact (pt_val (pe_call (ok__law_fence T) (hr.mono (by decide)) rfl T.m__law_fence T.F__law_fence.kp T.b__law_fence .nil pass0 (pa_cons (pv 0) (pa_cons (pv 3) pa_nil))))
      · refine pss_one ?_
        refine ps_set (i := 2) ?_ ?_ ?_ ?_ ?_ ?_
        · exact S.nd
        · exact rfl
        · exact (Or.inl rfl)
        · exact (pe_lst pa_nil)
        · rfl
        · first | exact .inl rfl | exact .inr rfl
      · exact pss_nil
  refine pss_one ?_
  exact (ps_ret (pv 2))
theorem ok__law_last (T : Txt K mg t) : FnOk P w K mg base CX0 3 t.a__law_last t.d__law_last ["_law_book_here", "_law_names_here", "_law_name"] (sp__law_last K) := by
  refine T.F__law_last.ok sc__law_last (len__law_last K) (fun cdv A outer s H vs Q E hr h => ⟨R__law_last K, ?_, rd__law_last h⟩)
  have S := sc__law_last
  refine pss_cons ?_ ?_
  · refine ps_for PassesOwn.never rfl ?_ ?_ ?_
    · exact (pi_revrange rfl T.z_reversed rfl T.z_range (pa_cons (pe_callB call_lenA rfl T.z_len boot_len (pa_cons (pv 1) pa_nil)) pa_nil))
    · exact (pg_name (i := 3) S.nd rfl (Or.inl rfl))
    · refine pss_cons ?_ ?_
      · refine ps_if ?_ ?_ ?_
        · exact (pt_cmpR (op_eqA hr.units) (pe_ix (ix_any' (hu_of hr)) (pv 1) (pv 3) (fun _ _ => rfl)) (pv 2) (nomark _))
        · refine pss_one ?_
          exact (ps_ret (pv 3))
        · exact pss_nil
      refine pss_one ?_
      refine ps_if ?_ ?_ ?_
      · exact (PW.pt (pw_and (pt_val (pe_call (ok__law_fence T) (hr.mono (by decide)) rfl T.m__law_fence T.F__law_fence.kp T.b__law_fence .nil pass0 (pa_cons (pv 0) (pa_cons (pe_ix (ix_any' (hu_of hr)) (pv 1) (pv 3) (fun _ _ => rfl)) pa_nil)))) (pw_and1 (pt_not (pt_val (pe_call (ok__law_belongs T) (hr.mono (by decide)) rfl T.m__law_belongs T.F__law_belongs.kp T.b__law_belongs .nil pass0 (pa_cons (pv 0) (pa_cons (pe_ix (ix_any' (hu_of hr)) (pv 1) (pv 3) (fun _ _ => rfl)) (pa_cons (pv 2) pa_nil)))))))))
      · refine pss_one ?_
        exact (ps_ret pe_non)
      · exact pss_nil
  refine pss_one ?_
  exact (ps_ret pe_non)
theorem ok_closing (T : Txt K mg t) : FnOk P w K mg base CX0 4 t.a_closing t.d_closing ["book", "names", "name"] (sp_closing K) := by
  refine T.F_closing.ok sc_closing (len_closing K) (fun cdv A outer s H vs Q E hr h => ⟨R_closing K, ?_, rd_closing h⟩)
  have S := sc_closing
  refine pss_cons ?_ ?_
  · refine ps_for PassesOwn.never rfl ?_ ?_ ?_
    · exact (pi_range3 rfl T.z_range (pa_cons (pe_op op_sub (pe_callB call_lenA rfl T.z_len boot_len (pa_cons (pv 1) pa_nil)) pe_int) (pa_cons (pe_un un_neg pe_int) (pa_cons (pe_un un_neg pe_int) pa_nil))))
    · exact (pg_name (i := 3) S.nd rfl (Or.inl rfl))
    · refine pss_cons ?_ ?_
      · refine ps_if ?_ ?_ ?_
        · exact (pt_cmpR (op_eqA hr.units) (pe_ix (ix_any' (hu_of hr)) (pv 1) (pv 3) (fun _ _ => rfl)) (pv 2) (nomark _))
        · refine pss_one ?_
          exact (ps_ret (pv 3))
        · exact pss_nil
      refine pss_one ?_
      refine ps_if ?_ ?_ ?_
      · exact (PW.pt (pw_and (pt_val (pe_call (ok_is_wall T) (hr.mono (by decide)) rfl T.m_is_wall T.F_is_wall.kp T.b_is_wall .nil pass0 (pa_cons (pv 0) (pa_cons (pe_ix (ix_any' (hu_of hr)) (pv 1) (pv 3) (fun _ _ => rfl)) pa_nil)))) (pw_and1 (pt_not (pt_val (pe_call (ok_belongs T) (hr.mono (by decide)) rfl T.m_belongs T.F_belongs.kp T.b_belongs .nil pass0 (pa_cons (pv 0) (pa_cons (pe_ix (ix_any' (hu_of hr)) (pv 1) (pv 3) (fun _ _ => rfl)) (pa_cons (pv 2) pa_nil)))))))))
      · refine pss_one ?_
        exact (ps_ret pe_non)
      · exact pss_nil
  refine pss_one ?_
  exact (ps_ret pe_non)
theorem ok__law_may (T : Txt K mg t) : FnOk P w K mg base CX0 4 t.a__law_may t.d__law_may ["_law_book_here", "_law_names_here", "_law_name"] (sp__law_may K) := by
  refine T.F__law_may.ok sc__law_may (len__law_may K) (fun cdv A outer s H vs Q E hr h => ⟨R__law_may K, ?_, rd__law_may h⟩)
  have S := sc__law_may
  refine pss_cons ?_ ?_
  · refine ps_set (i := 3) ?_ ?_ ?_ ?_ ?_ ?_
    · exact S.nd
    · exact rfl
    · exact (Or.inl rfl)
    · exact (pe_call (ok__law_row T) (hr.mono (by decide)) rfl T.m__law_row T.F__law_row.kp T.b__law_row .nil pass0 (pa_cons (pv 0) (pa_cons (pv 2) pa_nil)))
    · rfl
    · first | exact .inl rfl | exact .inr rfl
  refine pss_cons ?_ ?_
  · refine ps_set (i := 4) ?_ ?_ ?_ ?_ ?_ ?_
    · exact S.nd
    · exact rfl
    · exact (Or.inl rfl)
    · exact pe_str
    · rfl
    · first | exact .inl rfl | exact .inr rfl
  refine pss_cons ?_ ?_
  · refine ps_if ?_ ?_ ?_
    · exact (pt_cmpR op_gtA (pe_callB call_lenA rfl T.z_len boot_len (pa_cons (pv 1) pa_nil)) pe_int (nomark _))
    · refine pss_one ?_
      refine ps_set (i := 4) ?_ ?_ ?_ ?_ ?_ ?_
      · exact S.nd
      · exact rfl
      · exact (Or.inl rfl)
      · exact (pe_ix (ix_any' (hu_of hr)) (pv 1) (pe_un un_neg pe_int) (fun _ _ => rfl))
      · rfl
      · first | exact .inl rfl | exact .inr rfl
    · exact pss_nil
  refine pss_cons ?_ ?_
  · refine ps_if ?_ ?_ ?_
    · exact (PW.pt (pw_or (pt_cmpR op_isA (pv 3) pe_non (nomark _)) (pw_or1 (pt_cmpR op_gtA (pe_callB call_lenA rfl T.z_len boot_len (pa_cons (pv 1) pa_nil)) pe_int (nomark _)))))
    · refine pss_one ?_
      exact (ps_ret pe_bl)
    · exact pss_nil
  refine pss_cons ?_ ?_
  · refine ps_if ?_ ?_ ?_
    · exact (PW.pt (pw_and (pt_cmpR (op_neA hr.units) (pe_call (ok__law_frame T) (hr.mono (by decide)) rfl T.m__law_frame T.F__law_frame.kp T.b__law_frame .nil pass0 (pa_cons (pv 0) (pa_cons (pv 2) pa_nil))) pe_str (nomark _)) (pw_and1 (pt_cmpR (op_neA hr.units) (pe_call (ok__law_frame T) (hr.mono (by decide)) rfl T.m__law_frame T.F__law_frame.kp T.b__law_frame .nil pass0 (pa_cons (pv 0) (pa_cons (pv 2) pa_nil))) (pv 4) (nomark _)))))
    · refine pss_one ?_
      exact (ps_ret pe_bl)
    · exact pss_nil
  refine pss_cons ?_ ?_
  · refine ps_if ?_ ?_ ?_
    · exact (PW.pt (pw_and (pt_cmpR (op_neA hr.units) (pv 4) pe_str (nomark _)) (pw_and (pt_cmpR (op_eqA hr.units) (pe_ix (ix_any' (hu_of hr)) (pe_call (ok__law_row T) (hr.mono (by decide)) rfl T.m__law_row T.F__law_row.kp T.b__law_row .nil pass0 (pa_cons (pv 0) (pa_cons (pv 4) pa_nil))) pe_int (fun _ _ => rfl)) pe_str (nomark _)) (pw_and1 (pt_cmpR (op_neA hr.units) (pe_ix (ix_any' (hu_of hr)) (pe_call (ok__law_row T) (hr.mono (by decide)) rfl T.m__law_row T.F__law_row.kp T.b__law_row .nil pass0 (pa_cons (pv 0) (pa_cons (pv 4) pa_nil))) pe_int (fun _ _ => rfl)) (pv 2) (nomark _))))))
    · refine pss_one ?_
      exact (ps_ret pe_bl)
    · exact pss_nil
  refine pss_cons ?_ ?_
  · refine ps_for PassesOwn.never rfl ?_ ?_ ?_
    · exact (pi_any (pe_call (ok__law_near T) (hr.mono (by decide)) rfl T.m__law_near T.F__law_near.kp T.b__law_near .nil pass0 (pa_cons (pv 0) (pa_cons (pv 1) pa_nil))))
    · exact (pg_name (i := 5) S.nd rfl (Or.inl rfl))
    · refine pss_one ?_
      refine ps_if ?_ ?_ ?_
      · exact (PW.pt (pw_or (pt_cmpR (op_inB (hu_of hr)) (pv 5) (pe_ix (ix_any' (hu_of hr)) (pv 3) pe_int (fun _ _ => rfl)) (by with_unfolding_all rfl)) (pw_or1 (pt_cmpR (op_inB (hu_of hr)) (pv 5) (pe_ix (ix_any' (hu_of hr)) (pv 3) pe_int (fun _ _ => rfl)) (by with_unfolding_all rfl)))))
      · refine pss_one ?_
        exact (ps_ret pe_bl)
      · exact pss_nil
  refine pss_one ?_
  exact (ps_ret pe_bl)
theorem ok__law_stack (T : Txt K mg t) : FnOk P w K mg base CX0 5 t.a__law_stack t.d__law_stack ["_law_script", "_law_start", "_law_book_here"] (sp__law_stack K) := by
  refine T.F__law_stack.ok sc__law_stack (len__law_stack K) (fun cdv A outer s H vs Q E hr h => ⟨R__law_stack K, ?_, rd__law_stack h⟩)
  have S := sc__law_stack
  refine pss_cons ?_ ?_
  · refine ps_set (i := 3) ?_ ?_ ?_ ?_ ?_ ?_
    · exact S.nd
    · exact rfl
    · exact (Or.inl rfl)
    · exact (pe_lst pa_nil)
    · rfl
    · first | exact .inl rfl | exact .inr rfl
  refine pss_cons ?_ ?_
  · refine ps_for PassesOwn.never rfl ?_ ?_ ?_
    · exact (pi_any (pe_slice sl_any (pv 0) (po_some (pv 1)) (po_some (pe_op op_addA (pv 1) pe_int))))
    · exact (pg_name (i := 4) S.nd rfl (Or.inl rfl))
    · refine pss_cons ?_ ?_
      · refine ps_set (i := 5) ?_ ?_ ?_ ?_ ?_ ?_
        · exact S.nd
        · exact rfl
        · exact (Or.inl rfl)
        · exact (pe_call (ok__law_mixed T) (hr.mono (by decide)) rfl T.m__law_mixed T.F__law_mixed.kp T.b__law_mixed .nil pass0 (pa_cons (pv 4) (pa_cons pe_int pa_nil)))
        · rfl
        · first | exact .inl rfl | exact .inr rfl
      refine pss_cons ?_ ?_
      · refine ps_set (i := 6) ?_ ?_ ?_ ?_ ?_ ?_
        · exact S.nd
        · exact rfl
        · exact (Or.inl rfl)
        · exact (pe_ix (ix_any' (hu_of hr)) (pv 2) (pe_op op_mod (pv 5) (pe_callB call_lenA rfl T.z_len boot_len (pa_cons (pv 2) pa_nil))) (fun _ _ => rfl))
        · rfl
        · first | exact .inl rfl | exact .inr rfl
      refine pss_cons ?_ ?_
      · refine ps_set (i := 7) ?_ ?_ ?_ ?_ ?_ ?_
        · exact S.nd
        · exact rfl
        · exact (Or.inl rfl)
        · exact (pe_ix (ix_any' (hu_of hr)) (pe_lst (pa_cons pe_int (pa_cons pe_int (pa_cons pe_int (pa_cons pe_int pa_nil))))) (pe_op op_mod (pe_op op_fdiv (pv 5) pe_int) pe_int) (fun _ _ => rfl))
        · rfl
        · first | exact .inl rfl | exact .inr rfl
      refine pss_cons ?_ ?_
      · refine ps_for PassesOwn.never rfl ?_ ?_ ?_
        · exact (pi_range1 rfl T.z_range (pa_cons (pv 7) pa_nil))
        · exact (pg_name (i := 8) S.nd rfl (Or.inl rfl))
        · refine pss_cons ?_ ?_
          · refine ps_if ?_ ?_ ?_
            · exact (PW.pt (pw_and (pt_cmpR (op_neA hr.units) (pv 3) (pe_lst pa_nil) (nomark _)) (pw_and (pt_cmpR (op_eqA hr.units) (pe_ix (ix_any' (hu_of hr)) (pe_call (ok__law_row T) (hr.mono (by decide)) rfl T.m__law_row T.F__law_row.kp T.b__law_row .nil pass0 (pa_cons (pv 2) (pa_cons (pe_ix (ix_any' (hu_of hr)) (pv 3) (pe_un un_neg pe_int) (fun _ _ => rfl)) pa_nil))) pe_int (fun _ _ => rfl)) pe_str (nomark _)) (pw_and1 (pt_cmpR op_gtA (pe_op op_mod (pe_op op_fdiv (pv 5) pe_int) pe_int) pe_int (nomark _))))))
            · refine pss_one ?_
              refine ps_set (i := 6) ?_ ?_ ?_ ?_ ?_ ?_
              · exact S.nd
              · exact rfl
              · exact (Or.inl rfl)
              · exact (pe_call (ok__law_row T) (hr.mono (by decide)) rfl T.m__law_row T.F__law_row.kp T.b__law_row .nil pass0 (pa_cons (pv 2) (pa_cons (pe_ix (ix_any' (hu_of hr)) (pe_call (ok__law_row T) (hr.mono (by decide)) rfl T.m__law_row T.F__law_row.kp T.b__law_row .nil pass0 (pa_cons (pv 2) (pa_cons (pe_ix (ix_any' (hu_of hr)) (pv 3) (pe_un un_neg pe_int) (fun _ _ => rfl)) pa_nil))) pe_int (fun _ _ => rfl)) pa_nil)))
              · rfl
              · first | exact .inl rfl | exact .inr rfl
            · exact pss_nil
          refine pss_one ?_
          refine ps_if ?_ ?_ ?_
          · exact (PW.pt (pw_and (pt_cmpR (op_neA hr.units) (pe_ix (ix_any' (hu_of hr)) (pv 6) pe_int (fun _ _ => rfl)) pe_str (nomark _)) (pw_and1 (pt_val (pe_call (ok__law_may T) (hr.mono (by decide)) rfl T.m__law_may T.F__law_may.kp T.b__law_may .nil pass0 (pa_cons (pv 2) (pa_cons (pv 3) (pa_cons (pe_ix (ix_any' (hu_of hr)) (pv 6) pe_int (fun _ _ => rfl)) pa_nil))))))))
          · refine pss_one ?_
            exact (ps_expr (pe_bm PySem.F.plainAttrs_list PySem.F.slot_list_append PySem.F.type_list_append mt_append (pv 3) (pa_cons (pe_ix (ix_any' (hu_of hr)) (pv 6) pe_int (fun _ _ => rfl)) pa_nil)))
          · exact pss_nil
      refine pss_one ?_
      refine ps_if ?_ ?_ ?_
      · exact (pt_cmpR (op_eqA hr.units) (pe_op op_mod (pe_op op_fdiv (pv 5) pe_int) pe_int) pe_int (nomark _))
      · refine pss_one ?_
        refine ps_set (i := 3) ?_ ?_ ?_ ?_ ?_ ?_
        · exact S.nd
        · exact rfl
        · exact (Or.inl rfl)
        · exact (pe_slice sl_any (pv 3) po_none (po_some (pe_op op_mod (pe_op op_fdiv (pv 5) pe_int) (pe_op op_addA (pe_callB call_lenA rfl T.z_len boot_len (pa_cons (pv 3) pa_nil)) pe_int))))
        · rfl
        · first | exact .inl rfl | exact .inr rfl
      · exact pss_nil
  refine pss_one ?_
  exact (ps_ret (pe_callTy call_tupleA rfl T.z_tuple boot_tuple (pa_cons (pv 3) pa_nil)))
theorem ok_law (T : Txt K mg t) : FnOk P w K mg base CX0 6 t.a_law t.d_law ["_law_script"] (sp_law K) := by
  refine T.F_law.ok sc_law (len_law K) (fun cdv A outer s H vs Q E hr h => ⟨R_law K, ?_, rd_law h⟩)
  have S := sc_law
  refine pss_cons ?_ ?_
  · refine ps_set (i := 1) ?_ ?_ ?_ ?_ ?_ ?_
    · exact S.nd
    · exact rfl
    · exact (Or.inl rfl)
    · exact (pe_call (ok__law_book T) (hr.mono (by decide)) rfl T.m__law_book T.F__law_book.kp T.b__law_book .nil pass0 (pa_cons (pv 0) pa_nil))
    · rfl
    · first | exact .inl rfl | exact .inr rfl
  refine pss_cons ?_ ?_
  · refine ps_set (i := 2) ?_ ?_ ?_ ?_ ?_ ?_
    · exact S.nd
    · exact rfl
    · exact (Or.inl rfl)
    · exact (pe_call (ok__law_stack T) (hr.mono (by decide)) rfl T.m__law_stack T.F__law_stack.kp T.b__law_stack .nil pass0 (pa_cons (pv 0) (pa_cons pe_int (pa_cons (pv 1) pa_nil))))
    · rfl
    · first | exact .inl rfl | exact .inr rfl
  refine pss_cons ?_ ?_
  · refine ps_for PassesOwn.never rfl ?_ ?_ ?_
    · exact (pi_any (pe_op op_addB (pe_op op_addB (pe_comp rfl (comp_scope (osc := defScope s_law) (ON := ["_law_script", "_law_book_here", "_law_names_here", "_law_name", "_law_due", "_law_found"]) (N := ["_law_row_here"]) (fr := [none]) (by decide +kernel) rfl rfl) (pi_any (pv 1)) (fun _ _ _ _ _ _ => (pg_name (i := 0) (show List.Nodup (["_law_row_here"] : List Str) by decide +kernel) rfl (Or.inl rfl))) tg_name (fun _ _ _ _ _ _ => pts_nil) (fun _ _ _ _ _ _ => (pe_ix (ix_any' (hu_of hr)) (pv 0) pe_int (fun _ _ => rfl)))) (pe_lst (pa_cons pe_str (pa_cons pe_str pa_nil)))) (pe_callTy call_listA rfl T.z_list boot_list (pa_cons (pv 2) pa_nil))))
    · exact (pg_name (i := 3) S.nd rfl (Or.inl rfl))
    · refine pss_cons ?_ ?_
      · refine ps_set (i := 4) ?_ ?_ ?_ ?_ ?_ ?_
        · exact S.nd
        · exact rfl
        · exact (Or.inl rfl)
        · exact (pe_call (ok__law_last T) (hr.mono (by decide)) rfl T.m__law_last T.F__law_last.kp T.b__law_last .nil pass0 (pa_cons (pv 1) (pa_cons (pv 2) (pa_cons (pv 3) pa_nil))))
        · rfl
        · first | exact .inl rfl | exact .inr rfl
      refine pss_cons ?_ ?_
      · refine ps_set (i := 5) ?_ ?_ ?_ ?_ ?_ ?_
        · exact S.nd
        · exact rfl
        · exact (Or.inl rfl)
        · exact (pe_call (ok_closing T) (hr.mono (by decide)) rfl T.m_closing T.F_closing.kp T.b_closing .nil pass0 (pa_cons (pv 1) (pa_cons (pv 2) (pa_cons (pv 3) pa_nil))))
        · rfl
        · first | exact .inl rfl | exact .inr rfl
      refine pss_one ?_
      refine ps_if ?_ ?_ ?_
      · exact (pt_cmpR op_isA (pv 4) pe_non (nomark _))
      · refine pss_one ?_
        refine ps_if ?_ ?_ ?_
        · exact (pt_cmpR op_isnotA (pv 5) pe_non (nomark _))
        · refine pss_one ?_
          exact (ps_ret pe_bl)
        · exact pss_nil
      · refine pss_one ?_
        refine ps_if ?_ ?_ ?_
        · exact (PW.pt (pw_or (pt_not (pt_val (pe_call (ok__law_whole T) (hr.mono (by decide)) rfl T.m__law_whole T.F__law_whole.kp T.b__law_whole .nil pass0 (pa_cons (pv 5) pa_nil)))) (pw_or1 (pt_cmpR (op_neA hr.units) (pv 5) (pv 4) (nomark _)))))
        · refine pss_one ?_
          exact (ps_ret pe_bl)
        · exact pss_nil
  refine pss_one ?_
  exact (ps_ret pe_bl)
end
theorem all_mk {l : PySem.W.OpenLaw} {w : World} {K : PySem.W.Frag} {h : Heap} {mg : Str → Option Value} {fa f0 f1 f2 f3 f4 f5 f6 f7 f8 f9 f10 f11 f12 f13 f14 f15 f16 f17 f18 f19 f20 f21 : Addr} (X : K.In h) (G : h.Ns mainGlobals mg) (hfa : mg "law" = some (.ref fa))
    {od0 an0 od1 an1 od2 an2 od3 an3 od4 an4 od5 an5 od6 an6 od7 an7 od8 an8 od9 an9 od10 an10 od11 an11 od12 an12 od13 an13 od14 an14 od15 an15 od16 an16 od17 an17 od18 an18 od19 an19 od20 an20 od21 an21 : Option Addr} {sl0 sl1 sl2 sl3 sl4 sl5 sl6 sl7 sl8 sl9 sl10 sl11 sl12 sl13 sl14 sl15 sl16 sl17 sl18 sl19 sl20 sl21 : Array (Option Value)} {oc0 kV0 dc0 pm0 cd0 ct0 oc1 kV1 dc1 pm1 cd1 ct1 oc2 kV2 dc2 pm2 cd2 ct2 oc3 kV3 dc3 pm3 cd3 ct3 oc4 kV4 dc4 pm4 cd4 ct4 oc5 kV5 dc5 pm5 cd5 ct5 oc6 kV6 dc6 pm6 cd6 ct6 oc7 kV7 dc7 pm7 cd7 ct7 oc8 kV8 dc8 pm8 cd8 ct8 oc9 kV9 dc9 pm9 cd9 ct9 oc10 kV10 dc10 pm10 cd10 ct10 oc11 kV11 dc11 pm11 cd11 ct11 oc12 kV12 dc12 pm12 cd12 ct12 oc13 kV13 dc13 pm13 cd13 ct13 oc14 kV14 dc14 pm14 cd14 ct14 oc15 kV15 dc15 pm15 cd15 ct15 oc16 kV16 dc16 pm16 cd16 ct16 oc17 kV17 dc17 pm17 cd17 ct17 oc18 kV18 dc18 pm18 cd18 ct18 oc19 kV19 dc19 pm19 cd19 ct19 oc20 kV20 dc20 pm20 cd20 ct20 oc21 kV21 dc21 pm21 cd21 ct21 : Value}
    {k_NAME k_SORT k_HOST : Tok}
    {c_WALL_SORTS : Addr} {d_WALL_SORTS : Option Addr} {n_WALL_SORTS : Nat} {sl_WALL_SORTS : Array (Option Value)} {k_WALL_SORTS_0 k_WALL_SORTS_1 : Tok}
    (a0 : PySem.W.nsIn K mainGlobals "row_of" = some (some (.ref f0))) (l0 : K.lookup f0 = some ⟨oc0, od0, .func (PySem.W.fnOf "row_of" "row_of" (defArgs s_row_of) (defBody s_row_of) (defScope s_row_of) .none kV0 dc0 pm0 an0 cd0 ct0), sl0⟩) (c0 : PySem.W.codeIn K cd0 "row_of" = true) (k0 : PySem.W.keepIn K (.ref f0) = true)
    (a1 : PySem.W.nsIn K mainGlobals "sort_of" = some (some (.ref f1))) (l1 : K.lookup f1 = some ⟨oc1, od1, .func (PySem.W.fnOf "sort_of" "sort_of" (defArgs s_sort_of) (defBody s_sort_of) (defScope s_sort_of) .none kV1 dc1 pm1 an1 cd1 ct1), sl1⟩) (c1 : PySem.W.codeIn K cd1 "sort_of" = true) (k1 : PySem.W.keepIn K (.ref f1) = true)
    (a2 : PySem.W.nsIn K mainGlobals "is_wall" = some (some (.ref f2))) (l2 : K.lookup f2 = some ⟨oc2, od2, .func (PySem.W.fnOf "is_wall" "is_wall" (defArgs s_is_wall) (defBody s_is_wall) (defScope s_is_wall) .none kV2 dc2 pm2 an2 cd2 ct2), sl2⟩) (c2 : PySem.W.codeIn K cd2 "is_wall" = true) (k2 : PySem.W.keepIn K (.ref f2) = true)
    (a3 : PySem.W.nsIn K mainGlobals "frame_of" = some (some (.ref f3))) (l3 : K.lookup f3 = some ⟨oc3, od3, .func (PySem.W.fnOf "frame_of" "frame_of" (defArgs s_frame_of) (defBody s_frame_of) (defScope s_frame_of) .none kV3 dc3 pm3 an3 cd3 ct3), sl3⟩) (c3 : PySem.W.codeIn K cd3 "frame_of" = true) (k3 : PySem.W.keepIn K (.ref f3) = true)
    (a4 : PySem.W.nsIn K mainGlobals "belongs" = some (some (.ref f4))) (l4 : K.lookup f4 = some ⟨oc4, od4, .func (PySem.W.fnOf "belongs" "belongs" (defArgs s_belongs) (defBody s_belongs) (defScope s_belongs) .none kV4 dc4 pm4 an4 cd4 ct4), sl4⟩) (c4 : PySem.W.codeIn K cd4 "belongs" = true) (k4 : PySem.W.keepIn K (.ref f4) = true)
    (a5 : PySem.W.nsIn K mainGlobals "closing" = some (some (.ref f5))) (l5 : K.lookup f5 = some ⟨oc5, od5, .func (PySem.W.fnOf "closing" "closing" (defArgs s_closing) (defBody s_closing) (defScope s_closing) .none kV5 dc5 pm5 an5 cd5 ct5), sl5⟩) (c5 : PySem.W.codeIn K cd5 "closing" = true) (k5 : PySem.W.keepIn K (.ref f5) = true)
    (a6 : PySem.W.nsIn K mainGlobals "_law_cell_at" = some (some (.ref f6))) (l6 : K.lookup f6 = some ⟨oc6, od6, .func (PySem.W.fnOf "_law_cell_at" "_law_cell_at" (defArgs s__law_cell_at) (defBody s__law_cell_at) (defScope s__law_cell_at) .none kV6 dc6 pm6 an6 cd6 ct6), sl6⟩) (c6 : PySem.W.codeIn K cd6 "_law_cell_at" = true) (k6 : PySem.W.keepIn K (.ref f6) = true)
    (a7 : PySem.W.nsIn K mainGlobals "_law_mixed" = some (some (.ref f7))) (l7 : K.lookup f7 = some ⟨oc7, od7, .func (PySem.W.fnOf "_law_mixed" "_law_mixed" (defArgs s__law_mixed) (defBody s__law_mixed) (defScope s__law_mixed) .none kV7 dc7 pm7 an7 cd7 ct7), sl7⟩) (c7 : PySem.W.codeIn K cd7 "_law_mixed" = true) (k7 : PySem.W.keepIn K (.ref f7) = true)
    (a8 : PySem.W.nsIn K mainGlobals "_law_letters" = some (some (.ref f8))) (l8 : K.lookup f8 = some ⟨oc8, od8, .func (PySem.W.fnOf "_law_letters" "_law_letters" (defArgs s__law_letters) (defBody s__law_letters) (defScope s__law_letters) .none kV8 dc8 pm8 an8 cd8 ct8), sl8⟩) (c8 : PySem.W.codeIn K cd8 "_law_letters" = true) (k8 : PySem.W.keepIn K (.ref f8) = true)
    (a9 : PySem.W.nsIn K mainGlobals "_law_names" = some (some (.ref f9))) (l9 : K.lookup f9 = some ⟨oc9, od9, .func (PySem.W.fnOf "_law_names" "_law_names" (defArgs s__law_names) (defBody s__law_names) (defScope s__law_names) .none kV9 dc9 pm9 an9 cd9 ct9), sl9⟩) (c9 : PySem.W.codeIn K cd9 "_law_names" = true) (k9 : PySem.W.keepIn K (.ref f9) = true)
    (a10 : PySem.W.nsIn K mainGlobals "_law_sorts" = some (some (.ref f10))) (l10 : K.lookup f10 = some ⟨oc10, od10, .func (PySem.W.fnOf "_law_sorts" "_law_sorts" (defArgs s__law_sorts) (defBody s__law_sorts) (defScope s__law_sorts) .none kV10 dc10 pm10 an10 cd10 ct10), sl10⟩) (c10 : PySem.W.codeIn K cd10 "_law_sorts" = true) (k10 : PySem.W.keepIn K (.ref f10) = true)
    (a11 : PySem.W.nsIn K mainGlobals "_law_book" = some (some (.ref f11))) (l11 : K.lookup f11 = some ⟨oc11, od11, .func (PySem.W.fnOf "_law_book" "_law_book" (defArgs s__law_book) (defBody s__law_book) (defScope s__law_book) .none kV11 dc11 pm11 an11 cd11 ct11), sl11⟩) (c11 : PySem.W.codeIn K cd11 "_law_book" = true) (k11 : PySem.W.keepIn K (.ref f11) = true)
    (a12 : PySem.W.nsIn K mainGlobals "_law_row" = some (some (.ref f12))) (l12 : K.lookup f12 = some ⟨oc12, od12, .func (PySem.W.fnOf "_law_row" "_law_row" (defArgs s__law_row) (defBody s__law_row) (defScope s__law_row) .none kV12 dc12 pm12 an12 cd12 ct12), sl12⟩) (c12 : PySem.W.codeIn K cd12 "_law_row" = true) (k12 : PySem.W.keepIn K (.ref f12) = true)
    (a13 : PySem.W.nsIn K mainGlobals "_law_frame" = some (some (.ref f13))) (l13 : K.lookup f13 = some ⟨oc13, od13, .func (PySem.W.fnOf "_law_frame" "_law_frame" (defArgs s__law_frame) (defBody s__law_frame) (defScope s__law_frame) .none kV13 dc13 pm13 an13 cd13 ct13), sl13⟩) (c13 : PySem.W.codeIn K cd13 "_law_frame" = true) (k13 : PySem.W.keepIn K (.ref f13) = true)
    (a14 : PySem.W.nsIn K mainGlobals "_law_fence" = some (some (.ref f14))) (l14 : K.lookup f14 = some ⟨oc14, od14, .func (PySem.W.fnOf "_law_fence" "_law_fence" (defArgs s__law_fence) (defBody s__law_fence) (defScope s__law_fence) .none kV14 dc14 pm14 an14 cd14 ct14), sl14⟩) (c14 : PySem.W.codeIn K cd14 "_law_fence" = true) (k14 : PySem.W.keepIn K (.ref f14) = true)
    (a15 : PySem.W.nsIn K mainGlobals "_law_belongs" = some (some (.ref f15))) (l15 : K.lookup f15 = some ⟨oc15, od15, .func (PySem.W.fnOf "_law_belongs" "_law_belongs" (defArgs s__law_belongs) (defBody s__law_belongs) (defScope s__law_belongs) .none kV15 dc15 pm15 an15 cd15 ct15), sl15⟩) (c15 : PySem.W.codeIn K cd15 "_law_belongs" = true) (k15 : PySem.W.keepIn K (.ref f15) = true)
    (a16 : PySem.W.nsIn K mainGlobals "_law_near" = some (some (.ref f16))) (l16 : K.lookup f16 = some ⟨oc16, od16, .func (PySem.W.fnOf "_law_near" "_law_near" (defArgs s__law_near) (defBody s__law_near) (defScope s__law_near) .none kV16 dc16 pm16 an16 cd16 ct16), sl16⟩) (c16 : PySem.W.codeIn K cd16 "_law_near" = true) (k16 : PySem.W.keepIn K (.ref f16) = true)
    (a17 : PySem.W.nsIn K mainGlobals "_law_may" = some (some (.ref f17))) (l17 : K.lookup f17 = some ⟨oc17, od17, .func (PySem.W.fnOf "_law_may" "_law_may" (defArgs s__law_may) (defBody s__law_may) (defScope s__law_may) .none kV17 dc17 pm17 an17 cd17 ct17), sl17⟩) (c17 : PySem.W.codeIn K cd17 "_law_may" = true) (k17 : PySem.W.keepIn K (.ref f17) = true)
    (a18 : PySem.W.nsIn K mainGlobals "_law_stack" = some (some (.ref f18))) (l18 : K.lookup f18 = some ⟨oc18, od18, .func (PySem.W.fnOf "_law_stack" "_law_stack" (defArgs s__law_stack) (defBody s__law_stack) (defScope s__law_stack) .none kV18 dc18 pm18 an18 cd18 ct18), sl18⟩) (c18 : PySem.W.codeIn K cd18 "_law_stack" = true) (k18 : PySem.W.keepIn K (.ref f18) = true)
    (a19 : PySem.W.nsIn K mainGlobals "_law_last" = some (some (.ref f19))) (l19 : K.lookup f19 = some ⟨oc19, od19, .func (PySem.W.fnOf "_law_last" "_law_last" (defArgs s__law_last) (defBody s__law_last) (defScope s__law_last) .none kV19 dc19 pm19 an19 cd19 ct19), sl19⟩) (c19 : PySem.W.codeIn K cd19 "_law_last" = true) (k19 : PySem.W.keepIn K (.ref f19) = true)
    (a20 : PySem.W.nsIn K mainGlobals "_law_whole" = some (some (.ref f20))) (l20 : K.lookup f20 = some ⟨oc20, od20, .func (PySem.W.fnOf "_law_whole" "_law_whole" (defArgs s__law_whole) (defBody s__law_whole) (defScope s__law_whole) .none kV20 dc20 pm20 an20 cd20 ct20), sl20⟩) (c20 : PySem.W.codeIn K cd20 "_law_whole" = true) (k20 : PySem.W.keepIn K (.ref f20) = true)
    (a21 : PySem.W.nsIn K mainGlobals "law" = some (some (.ref f21))) (l21 : K.lookup f21 = some ⟨oc21, od21, .func (PySem.W.fnOf "law" "law" (defArgs s_law) (defBody s_law) (defScope s_law) .none kV21 dc21 pm21 an21 cd21 ct21), sl21⟩) (c21 : PySem.W.codeIn K cd21 "law" = true) (k21 : PySem.W.keepIn K (.ref f21) = true)
    (uNAME : PySem.W.nsIn K mainGlobals "NAME" = some (some (.int 0 k_NAME)))
    (uSORT : PySem.W.nsIn K mainGlobals "SORT" = some (some (.int 1 k_SORT)))
    (uHOST : PySem.W.nsIn K mainGlobals "HOST" = some (some (.int 2 k_HOST)))
    (uWALL_SORTS : PySem.W.nsIn K mainGlobals "WALL_SORTS" = some (some (.ref c_WALL_SORTS))) (wWALL_SORTS : K.lookup c_WALL_SORTS = some ⟨.type "tuple", d_WALL_SORTS, .seq #[.str ("room" : Str) k_WALL_SORTS_0, .str ("frame" : Str) k_WALL_SORTS_1] n_WALL_SORTS, sl_WALL_SORTS⟩)
    (zbool : PySem.W.nsIn K mainGlobals "bool" = some none) (zint : PySem.W.nsIn K mainGlobals "int" = some none) (zisinstance : PySem.W.nsIn K mainGlobals "isinstance" = some none) (zlen : PySem.W.nsIn K mainGlobals "len" = some none) (zlist : PySem.W.nsIn K mainGlobals "list" = some none) (zrange : PySem.W.nsIn K mainGlobals "range" = some none) (zreversed : PySem.W.nsIn K mainGlobals "reversed" = some none) (zsorted : PySem.W.nsIn K mainGlobals "sorted" = some none) (ztuple : PySem.W.nsIn K mainGlobals "tuple" = some none) :
    ∃ fd : FuncData, (∀ (s : Shared) (v : Value), BindsTo s fd ⟨[v], []⟩ [("_law_script", v)]) ∧ ∀ base : Heap, K.In base → base.Ns mainGlobals mg → FnOk l.prog w K mg base CX0 6 fa fd ["_law_script"] (sp_law K) := by
  have e := hfa.symm.trans (PySem.W.mg_of X G a21)
  have e : f21 = fa := by cases e; rfl
  subst e
  have F0 := fun_mk (st := s_row_of) l0 c0 k0
  have b0 := F0.binds (ps := ["rows", "name"]) fun _ _ _ _ _ _ us hl => match us, hl with | [_, _], _ => rfl
  have F1 := fun_mk (st := s_sort_of) l1 c1 k1
  have b1 := F1.binds (ps := ["book", "name"]) fun _ _ _ _ _ _ us hl => match us, hl with | [_, _], _ => rfl
  have F2 := fun_mk (st := s_is_wall) l2 c2 k2
  have b2 := F2.binds (ps := ["book", "name"]) fun _ _ _ _ _ _ us hl => match us, hl with | [_, _], _ => rfl
  have F3 := fun_mk (st := s_frame_of) l3 c3 k3
  have b3 := F3.binds (ps := ["book", "name"]) fun _ _ _ _ _ _ us hl => match us, hl with | [_, _], _ => rfl
  have F4 := fun_mk (st := s_belongs) l4 c4 k4
  have b4 := F4.binds (ps := ["book", "name", "frame"]) fun _ _ _ _ _ _ us hl => match us, hl with | [_, _, _], _ => rfl
  have F5 := fun_mk (st := s_closing) l5 c5 k5
  have b5 := F5.binds (ps := ["book", "names", "name"]) fun _ _ _ _ _ _ us hl => match us, hl with | [_, _, _], _ => rfl
  have F6 := fun_mk (st := s__law_cell_at) l6 c6 k6
  have b6 := F6.binds (ps := ["_law_script", "_law_k"]) fun _ _ _ _ _ _ us hl => match us, hl with | [_, _], _ => rfl
  have F7 := fun_mk (st := s__law_mixed) l7 c7 k7
  have b7 := F7.binds (ps := ["_law_cell", "_law_k"]) fun _ _ _ _ _ _ us hl => match us, hl with | [_, _], _ => rfl
  have F8 := fun_mk (st := s__law_letters) l8 c8 k8
  have b8 := F8.binds (ps := ["_law_number"]) fun _ _ _ _ _ _ us hl => match us, hl with | [_], _ => rfl
  have F9 := fun_mk (st := s__law_names) l9 c9 k9
  have b9 := F9.binds (ps := ["_law_cell"]) fun _ _ _ _ _ _ us hl => match us, hl with | [_], _ => rfl
  have F10 := fun_mk (st := s__law_sorts) l10 c10 k10
  have b10 := F10.binds (ps := ["_law_script", "_law_names_here", "_law_count"]) fun _ _ _ _ _ _ us hl => match us, hl with | [_, _, _], _ => rfl
  have F11 := fun_mk (st := s__law_book) l11 c11 k11
  have b11 := F11.binds (ps := ["_law_script"]) fun _ _ _ _ _ _ us hl => match us, hl with | [_], _ => rfl
  have F12 := fun_mk (st := s__law_row) l12 c12 k12
  have b12 := F12.binds (ps := ["_law_book_here", "_law_name"]) fun _ _ _ _ _ _ us hl => match us, hl with | [_, _], _ => rfl
  have F13 := fun_mk (st := s__law_frame) l13 c13 k13
  have b13 := F13.binds (ps := ["_law_book_here", "_law_name"]) fun _ _ _ _ _ _ us hl => match us, hl with | [_, _], _ => rfl
  have F14 := fun_mk (st := s__law_fence) l14 c14 k14
  have b14 := F14.binds (ps := ["_law_book_here", "_law_name"]) fun _ _ _ _ _ _ us hl => match us, hl with | [_, _], _ => rfl
  have F15 := fun_mk (st := s__law_belongs) l15 c15 k15
  have b15 := F15.binds (ps := ["_law_book_here", "_law_name", "_law_frame_here"]) fun _ _ _ _ _ _ us hl => match us, hl with | [_, _, _], _ => rfl
  have F16 := fun_mk (st := s__law_near) l16 c16 k16
  have b16 := F16.binds (ps := ["_law_book_here", "_law_names_here"]) fun _ _ _ _ _ _ us hl => match us, hl with | [_, _], _ => rfl
  have F17 := fun_mk (st := s__law_may) l17 c17 k17
  have b17 := F17.binds (ps := ["_law_book_here", "_law_names_here", "_law_name"]) fun _ _ _ _ _ _ us hl => match us, hl with | [_, _, _], _ => rfl
  have F18 := fun_mk (st := s__law_stack) l18 c18 k18
  have b18 := F18.binds (ps := ["_law_script", "_law_start", "_law_book_here"]) fun _ _ _ _ _ _ us hl => match us, hl with | [_, _, _], _ => rfl
  have F19 := fun_mk (st := s__law_last) l19 c19 k19
  have b19 := F19.binds (ps := ["_law_book_here", "_law_names_here", "_law_name"]) fun _ _ _ _ _ _ us hl => match us, hl with | [_, _, _], _ => rfl
  have F20 := fun_mk (st := s__law_whole) l20 c20 k20
  have b20 := F20.binds (ps := ["_law_found"]) fun _ _ _ _ _ _ us hl => match us, hl with | [_], _ => rfl
  have F21 := fun_mk (st := s_law) l21 c21 k21
  have b21 := F21.binds (ps := ["_law_script"]) fun _ _ _ _ _ _ us hl => match us, hl with | [_], _ => rfl
  let t : Adr := { a_row_of := f0, d_row_of := PySem.W.fnOf "row_of" "row_of" (defArgs s_row_of) (defBody s_row_of) (defScope s_row_of) .none kV0 dc0 pm0 an0 cd0 ct0, a_sort_of := f1, d_sort_of := PySem.W.fnOf "sort_of" "sort_of" (defArgs s_sort_of) (defBody s_sort_of) (defScope s_sort_of) .none kV1 dc1 pm1 an1 cd1 ct1, a_is_wall := f2, d_is_wall := PySem.W.fnOf "is_wall" "is_wall" (defArgs s_is_wall) (defBody s_is_wall) (defScope s_is_wall) .none kV2 dc2 pm2 an2 cd2 ct2, a_frame_of := f3, d_frame_of := PySem.W.fnOf "frame_of" "frame_of" (defArgs s_frame_of) (defBody s_frame_of) (defScope s_frame_of) .none kV3 dc3 pm3 an3 cd3 ct3, a_belongs := f4, d_belongs := PySem.W.fnOf "belongs" "belongs" (defArgs s_belongs) (defBody s_belongs) (defScope s_belongs) .none kV4 dc4 pm4 an4 cd4 ct4, a_closing := f5, d_closing := PySem.W.fnOf "closing" "closing" (defArgs s_closing) (defBody s_closing) (defScope s_closing) .none kV5 dc5 pm5 an5 cd5 ct5, a__law_cell_at := f6, d__law_cell_at := PySem.W.fnOf "_law_cell_at" "_law_cell_at" (defArgs s__law_cell_at) (defBody s__law_cell_at) (defScope s__law_cell_at) .none kV6 dc6 pm6 an6 cd6 ct6, a__law_mixed := f7, d__law_mixed := PySem.W.fnOf "_law_mixed" "_law_mixed" (defArgs s__law_mixed) (defBody s__law_mixed) (defScope s__law_mixed) .none kV7 dc7 pm7 an7 cd7 ct7, a__law_letters := f8, d__law_letters := PySem.W.fnOf "_law_letters" "_law_letters" (defArgs s__law_letters) (defBody s__law_letters) (defScope s__law_letters) .none kV8 dc8 pm8 an8 cd8 ct8, a__law_names := f9, d__law_names := PySem.W.fnOf "_law_names" "_law_names" (defArgs s__law_names) (defBody s__law_names) (defScope s__law_names) .none kV9 dc9 pm9 an9 cd9 ct9, a__law_sorts := f10, d__law_sorts := PySem.W.fnOf "_law_sorts" "_law_sorts" (defArgs s__law_sorts) (defBody s__law_sorts) (defScope s__law_sorts) .none kV10 dc10 pm10 an10 cd10 ct10, a__law_book := f11, d__law_book := PySem.W.fnOf "_law_book" "_law_book" (defArgs s__law_book) (defBody s__law_book) (defScope s__law_book) .none kV11 dc11 pm11 an11 cd11 ct11, a__law_row := f12, d__law_row := PySem.W.fnOf "_law_row" "_law_row" (defArgs s__law_row) (defBody s__law_row) (defScope s__law_row) .none kV12 dc12 pm12 an12 cd12 ct12, a__law_frame := f13, d__law_frame := PySem.W.fnOf "_law_frame" "_law_frame" (defArgs s__law_frame) (defBody s__law_frame) (defScope s__law_frame) .none kV13 dc13 pm13 an13 cd13 ct13, a__law_fence := f14, d__law_fence := PySem.W.fnOf "_law_fence" "_law_fence" (defArgs s__law_fence) (defBody s__law_fence) (defScope s__law_fence) .none kV14 dc14 pm14 an14 cd14 ct14, a__law_belongs := f15, d__law_belongs := PySem.W.fnOf "_law_belongs" "_law_belongs" (defArgs s__law_belongs) (defBody s__law_belongs) (defScope s__law_belongs) .none kV15 dc15 pm15 an15 cd15 ct15, a__law_near := f16, d__law_near := PySem.W.fnOf "_law_near" "_law_near" (defArgs s__law_near) (defBody s__law_near) (defScope s__law_near) .none kV16 dc16 pm16 an16 cd16 ct16, a__law_may := f17, d__law_may := PySem.W.fnOf "_law_may" "_law_may" (defArgs s__law_may) (defBody s__law_may) (defScope s__law_may) .none kV17 dc17 pm17 an17 cd17 ct17, a__law_stack := f18, d__law_stack := PySem.W.fnOf "_law_stack" "_law_stack" (defArgs s__law_stack) (defBody s__law_stack) (defScope s__law_stack) .none kV18 dc18 pm18 an18 cd18 ct18, a__law_last := f19, d__law_last := PySem.W.fnOf "_law_last" "_law_last" (defArgs s__law_last) (defBody s__law_last) (defScope s__law_last) .none kV19 dc19 pm19 an19 cd19 ct19, a__law_whole := f20, d__law_whole := PySem.W.fnOf "_law_whole" "_law_whole" (defArgs s__law_whole) (defBody s__law_whole) (defScope s__law_whole) .none kV20 dc20 pm20 an20 cd20 ct20, a_law := f21, d_law := PySem.W.fnOf "law" "law" (defArgs s_law) (defBody s_law) (defScope s_law) .none kV21 dc21 pm21 an21 cd21 ct21, v_NAME := .int 0 k_NAME, v_SORT := .int 1 k_SORT, v_HOST := .int 2 k_HOST, c_WALL_SORTS := c_WALL_SORTS }
  have T : Txt K mg t := ⟨F0, b0, PySem.W.mg_of X G a0, F1, b1, PySem.W.mg_of X G a1, F2, b2, PySem.W.mg_of X G a2, F3, b3, PySem.W.mg_of X G a3, F4, b4, PySem.W.mg_of X G a4, F5, b5, PySem.W.mg_of X G a5, F6, b6, PySem.W.mg_of X G a6, F7, b7, PySem.W.mg_of X G a7, F8, b8, PySem.W.mg_of X G a8, F9, b9, PySem.W.mg_of X G a9, F10, b10, PySem.W.mg_of X G a10, F11, b11, PySem.W.mg_of X G a11, F12, b12, PySem.W.mg_of X G a12, F13, b13, PySem.W.mg_of X G a13, F14, b14, PySem.W.mg_of X G a14, F15, b15, PySem.W.mg_of X G a15, F16, b16, PySem.W.mg_of X G a16, F17, b17, PySem.W.mg_of X G a17, F18, b18, PySem.W.mg_of X G a18, F19, b19, PySem.W.mg_of X G a19, F20, b20, PySem.W.mg_of X G a20, F21, b21, PySem.W.mg_of X G a21, PySem.W.mg_of X G uWALL_SORTS, fun _ => .inr ⟨_, _, _, wWALL_SORTS, rfl, rfl, by rw [sizeLine_eq]; show 2 ≤ _; decide, (.cons ⟨_, rfl⟩ (.cons ⟨_, rfl⟩ .nil))⟩, ⟨PySem.W.mg_of X G uNAME, ⟨_, rfl⟩⟩, ⟨PySem.W.mg_of X G uSORT, ⟨_, rfl⟩⟩, ⟨PySem.W.mg_of X G uHOST, ⟨_, rfl⟩⟩, PySem.W.mg_none_of X G zbool, PySem.W.mg_none_of X G zint, PySem.W.mg_none_of X G zisinstance, PySem.W.mg_none_of X G zlen, PySem.W.mg_none_of X G zlist, PySem.W.mg_none_of X G zrange, PySem.W.mg_none_of X G zreversed, PySem.W.mg_none_of X G zsorted, PySem.W.mg_none_of X G ztuple⟩
  exact ⟨_, fun s v => .of_eq rfl, fun base _ _ => ok_law T⟩
theorem walk {l : PySem.W.OpenLaw} {q : Program} {loose : List Str} {XP : (Str → Option Value) → Heap → Prop} {as : List Addr} {z t : Nat} {d : DefRec} {K : Params → PySem.W.Frag} (hn : l.most = some 63) (hdf : d.params.defaults = [])
    (hk : ∀ P, as = (K P).map (·.1)) (h0 : 0 < t)
    (F : ∀ (w : World) (mg : Str → Option Value) (fa : Addr) (h : Heap), (K w.params).In h → h.Ns mainGlobals mg → mg d.name = some (.ref fa) →
      ∃ fd : FuncData, (∀ (s : Shared) (u : Value), BindsTo s fd ⟨[u], []⟩ [("_law_script", u)]) ∧ ∀ base : Heap, (K w.params).In base → base.Ns mainGlobals mg → FnOk l.prog w (K w.params) mg base CX0 6 fa fd ["_law_script"] (sp_law (K w.params))) :
    PySem.W.WalkX q loose XP (PySem.W.X.obsZ as) (PySem.W.X.valZ K z t) l.row.toRowW d [] (fun f vs => PySem.call f vs) :=
  L2.walk_of (n := 63) (k := 6) (x := "_law_script") (CX := fun _ => CX0) (sp := fun w => sp_law (K w.params)) hn (by decide) hdf ⟨rfl, by decide, by decide⟩ hk h0 F (fun _ _ a ns hl _ hS => ⟨a, ns, rfl, hS, hl, fun _ => rfl⟩) fun _ _ _ _ _ z => z
end My
open PySem PySem.W PyProof.Rows
set_option maxRecDepth 100000 in
set_option maxHeartbeats 0 in
theorem PySem.Challenge.cw_tagmend_k30_what_closings_close_holds : PySem.Challenge.rw_tagmend_k30_what_closings_close.Holds := by
  w_on; o_law; z_head; (case hw => w_witness2)
  k_fill
  refine My.walk (l := PySem.Challenge.rw_tagmend_k30_what_closings_close) rfl rfl (fun _ => rfl) (by decide) ?F
  case F =>
    intro w mg fa h KX G hmg
    refine' My.all_mk KX G hmg ?a0 ?l0 ?c0 ?k0 ?a1 ?l1 ?c1 ?k1 ?a2 ?l2 ?c2 ?k2 ?a3 ?l3 ?c3 ?k3 ?a4 ?l4 ?c4 ?k4 ?a5 ?l5 ?c5 ?k5 ?a6 ?l6 ?c6 ?k6 ?a7 ?l7 ?c7 ?k7 ?a8 ?l8 ?c8 ?k8 ?a9 ?l9 ?c9 ?k9 ?a10 ?l10 ?c10 ?k10 ?a11 ?l11 ?c11 ?k11 ?a12 ?l12 ?c12 ?k12 ?a13 ?l13 ?c13 ?k13 ?a14 ?l14 ?c14 ?k14 ?a15 ?l15 ?c15 ?k15 ?a16 ?l16 ?c16 ?k16 ?a17 ?l17 ?c17 ?k17 ?a18 ?l18 ?c18 ?k18 ?a19 ?l19 ?c19 ?k19 ?a20 ?l20 ?c20 ?k20 ?a21 ?l21 ?c21 ?k21 ?uWALL_SORTS ?wWALL_SORTS ?uNAME ?uSORT ?uHOST ?zbool ?zint ?zisinstance ?zlen ?zlist ?zrange ?zreversed ?zsorted ?ztuple
    (case a0 => k_is); (case l0 => k_is); (case c0 => k_is); (case k0 => k_is)
    (case a1 => k_is); (case l1 => k_is); (case c1 => k_is); (case k1 => k_is)
    (case a2 => k_is); (case l2 => k_is); (case c2 => k_is); (case k2 => k_is)
    (case a3 => k_is); (case l3 => k_is); (case c3 => k_is); (case k3 => k_is)
    (case a4 => k_is); (case l4 => k_is); (case c4 => k_is); (case k4 => k_is)
    (case a5 => k_is); (case l5 => k_is); (case c5 => k_is); (case k5 => k_is)
    (case a6 => k_is); (case l6 => k_is); (case c6 => k_is); (case k6 => k_is)
    (case a7 => k_is); (case l7 => k_is); (case c7 => k_is); (case k7 => k_is)
    (case a8 => k_is); (case l8 => k_is); (case c8 => k_is); (case k8 => k_is)
    (case a9 => k_is); (case l9 => k_is); (case c9 => k_is); (case k9 => k_is)
    (case a10 => k_is); (case l10 => k_is); (case c10 => k_is); (case k10 => k_is)
    (case a11 => k_is); (case l11 => k_is); (case c11 => k_is); (case k11 => k_is)
    (case a12 => k_is); (case l12 => k_is); (case c12 => k_is); (case k12 => k_is)
    (case a13 => k_is); (case l13 => k_is); (case c13 => k_is); (case k13 => k_is)
    (case a14 => k_is); (case l14 => k_is); (case c14 => k_is); (case k14 => k_is)
    (case a15 => k_is); (case l15 => k_is); (case c15 => k_is); (case k15 => k_is)
    (case a16 => k_is); (case l16 => k_is); (case c16 => k_is); (case k16 => k_is)
    (case a17 => k_is); (case l17 => k_is); (case c17 => k_is); (case k17 => k_is)
    (case a18 => k_is); (case l18 => k_is); (case c18 => k_is); (case k18 => k_is)
    (case a19 => k_is); (case l19 => k_is); (case c19 => k_is); (case k19 => k_is)
    (case a20 => k_is); (case l20 => k_is); (case c20 => k_is); (case k20 => k_is)
    (case a21 => k_is); (case l21 => k_is); (case c21 => k_is); (case k21 => k_is)
    (case uWALL_SORTS => k_is); (case wWALL_SORTS => k_is); (case uNAME => k_is); (case uSORT => k_is)
    (case uHOST => k_is); (case zbool => k_is); (case zint => k_is); (case zisinstance => k_is)
    (case zlen => k_is); (case zlist => k_is); (case zrange => k_is); (case zreversed => k_is)
    (case zsorted => k_is); (case ztuple => k_is)
