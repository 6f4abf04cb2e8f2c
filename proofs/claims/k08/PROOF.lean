import PyProof.Rows.All
import Wide.All
import OpenK.AllK
import Wide.FinOn
import Lean
import PyProof.EqAt
import PyProof.EqKinds
import PyProof.TupleCall
import PyProof.NeKinds
import PyProof.Rows.SortStr
import PyProof.Rows.SeqMore
import PyProof.Rows.CatFin
import PyProof.MeetsStr
import PyProof.Rows.SumAny
import PySem.Challenge.RW_likepieces_k08_bare_forms_known
set_option Elab.async false
set_option linter.all false
set_option maxRecDepth 100000
/-! THE HAND LAYER, for ints, bools, texts, own classes, LISTS and tuples (index, slices, in, append, pop ..), calls, loops. Paste it whole ahead of your own text; what your proof does not reach may be deleted. -/
namespace L2
open PySem PySem.Spec PyProof.Rows

/-- a key: an int or a str -/
abbrev Key := Sum Int Str
def keyIs : Key → Value → Bool
  | .inl k, v => Value.isInt k v
  | .inr x, v => Value.isStrOf x v
def keyH (w : World) : Key → Int
  | .inl k => hashInt k
  | .inr x => hashStr w x
theorem keyIs_shape : ∀ {k : Key} {v : Value}, keyIs k v = true → (∃ i t, k = Sum.inl i ∧ v = Value.int i t) ∨ (∃ x t, k = Sum.inr x ∧ v = Value.str x t)
  | .inl i, v, h => by
    obtain ⟨t, e⟩ := Value.isInt_shape (k := i) (v := v) h
    exact .inl ⟨i, t, rfl, e⟩
  | .inr x, v, h => by
    obtain ⟨t, e⟩ := Value.isStrOf_shape (x := x) (v := v) h
    exact .inr ⟨x, t, rfl, e⟩
theorem keyIs_int (i : Int) (t : Tok) : keyIs (.inl i) (.int i t) = true := by simp [keyIs, Value.isInt]
theorem keyIs_str (x : Str) (t : Tok) : keyIs (.inr x) (.str x t) = true := by simp [keyIs, Value.isStrOf]
theorem key_ll (a b : Int) : decide ((Sum.inl a : Key) = Sum.inl b) = (a == b) := by
  by_cases e : a = b
  · subst e; simp
  · have h : ¬ (Sum.inl a : Key) = Sum.inl b := fun q => e (Sum.inl.inj q)
    rw [decide_eq_false h]
    exact (beq_eq_false_iff_ne.mpr e).symm
theorem key_rr (a b : Str) : decide ((Sum.inr a : Key) = Sum.inr b) = decide (a = b) := by
  by_cases e : a = b
  · subst e; simp
  · have h : ¬ (Sum.inr a : Key) = Sum.inr b := fun q => e (Sum.inr.inj q)
    rw [decide_eq_false h, decide_eq_false e]
theorem key_lr (a : Int) (b : Str) : decide ((Sum.inl a : Key) = Sum.inr b) = false := decide_eq_false (fun q => nomatch q)
theorem key_rl (a : Str) (b : Int) : decide ((Sum.inr a : Key) = Sum.inl b) = false := decide_eq_false (fun q => nomatch q)

def mixKind (prog : Program) (w : World) : PySem.KeyKind prog w Key where
  is := keyIs
  hash := keyH w
  inj := fun v a b ha hb => by
    rcases keyIs_shape ha with ⟨i, t, rfl, rfl⟩ | ⟨x, t, rfl, rfl⟩
    · rcases keyIs_shape hb with ⟨j, u, rfl, e⟩ | ⟨y, u, rfl, e⟩
      · injection e with e1 _; rw [e1]
      · exact nomatch e
    · rcases keyIs_shape hb with ⟨j, u, rfl, e⟩ | ⟨y, u, rfl, e⟩
      · exact nomatch e
      · injection e with e1 _; rw [e1]
  byValue := fun k v h => by
    rcases keyIs_shape h with ⟨i, t, rfl, rfl⟩ | ⟨x, t, rfl, rfl⟩ <;> rfl
  pyHash := fun hv h => by
    rcases keyIs_shape hv with ⟨i, t, rfl, rfl⟩ | ⟨x, t, rfl, rfl⟩
    · exact wpAny_pyHash_int h
    · exact wpAny_pyHash_str h
  eqBool := fun hu hv h => by
    rcases keyIs_shape hu with ⟨i, t, rfl, rfl⟩ | ⟨x, t, rfl, rfl⟩
    · rcases keyIs_shape hv with ⟨j, u, rfl, rfl⟩ | ⟨y, u, rfl, rfl⟩
      · rw [key_ll] at h; exact wpAny_eqBool_int h
      · rw [key_lr] at h; exact SeqAt.EqAt.int_str i t y u _ _ _ _ h
    · rcases keyIs_shape hv with ⟨j, u, rfl, rfl⟩ | ⟨y, u, rfl, rfl⟩
      · rw [key_rl] at h; exact SeqAt.EqAt.str_int x t j u _ _ _ _ h
      · rw [key_rr] at h; exact wpAny_eqBool_str h
  «strs» := fun k x t v h => by
    rcases keyIs_shape h with ⟨i, u, rfl, e⟩ | ⟨y, u, rfl, e⟩
    · exact nomatch e
    · injection e with e1 _
      subst e1
      cases v <;> rfl

theorem mixKind_int (prog : Program) (w : World) (i : Int) (t : Tok) : (mixKind prog w).is (.inl i) (.int i t) = true := keyIs_int i t
theorem mixKind_str (prog : Program) (w : World) (x : Str) (t : Tok) : (mixKind prog w).is (.inr x) (.str x t) = true := keyIs_str x t
end L2

namespace L2
open PySem PySem.Spec PyProof.Rows

/-- a value, without the heap -/
inductive V where
  | non | bl (b : Bool) | int (i : Int) | str (x : Str) | byt (b : Array UInt8) | flt (b : UInt64) | ref (a : Addr) | ty (n : String)
  deriving DecidableEq

def RelV : V → Value → Prop
  | .non, u => u = Value.none
  | .bl b, u => u = Value.bool b
  | .int i, u => ∃ t, u = Value.int i t
  | .str x, u => ∃ t, u = Value.str x t
  | .byt b, u => ∃ t, u = Value.bytes b t
  | .flt b, u => ∃ t, u = Value.float b t
  | .ref a, u => u = Value.ref a
  | .ty n, u => u = Value.type n

abbrev Vals : List V → List Value → Prop := Paired RelV
theorem Vals.length {xs : List V} {us : List Value} (r : Vals xs us) : xs.length = us.length := Paired.length r
theorem Vals.get : ∀ {xs : List V} {us : List Value} {i : Nat} {x : V}, Vals xs us → xs[i]? = some x → ∃ u, us[i]? = some u ∧ RelV x u
  | _, _, _, _, .nil, e => by simp at e
  | _, _, 0, _, .cons r _, e => by simp at e; subst e; exact ⟨_, rfl, r⟩
  | _, _, i + 1, x, .cons _ t, e => by
    obtain ⟨u, h1, h2⟩ := Vals.get (i := i) (x := x) t (by simpa using e)
    exact ⟨u, by simpa using h1, h2⟩
theorem Vals.set {x : V} {u : Value} (r : RelV x u) : ∀ {xs : List V} {us : List Value} (i : Nat), Vals xs us → Vals (xs.set i x) (us.set i u)
  | _, _, _, .nil => .nil
  | _, _, 0, .cons _ t => .cons r t
  | _, _, i + 1, .cons q t => .cons q (Vals.set r i t)
theorem Vals.append : ∀ {xs ys : List V} {us ws : List Value}, Vals xs us → Vals ys ws → Vals (xs ++ ys) (us ++ ws)
  | _, _, _, _, .nil, s => s
  | _, _, _, _, .cons r t, s => .cons r (Vals.append t s)
theorem Vals.take : ∀ {xs : List V} {us : List Value} (n : Nat), Vals xs us → Vals (xs.take n) (us.take n)
  | _, _, 0, _ => .nil
  | _, _, _ + 1, .nil => .nil
  | _, _, n + 1, .cons r t => .cons r (Vals.take n t)
theorem Vals.drop : ∀ {xs : List V} {us : List Value} (n : Nat), Vals xs us → Vals (xs.drop n) (us.drop n)
  | _, _, 0, r => r
  | _, _, _ + 1, .nil => .nil
  | _, _, n + 1, .cons _ t => Vals.drop n t

def RelO : Option V → Option Value → Prop
  | some v, some u => RelV v u
  | none, none => True
  | _, _ => False
def KV {κ : Type} : List (κ × V) → List (κ × Value) → Prop := Paired fun (p : κ × V) (q : κ × Value) => p.1 = q.1 ∧ RelV p.2 q.2

/-- a key of a dict (00_mix): an int or a text -/
def kV : Key → V
  | .inl i => .int i
  | .inr x => .str x

/-- what stands at a tracked address -/
inductive HO where
  /-- a list -/
  | lst (xs : List V)
  /-- a tuple (never changes) -/
  | tup (xs : List V)
  /-- a dict whose keys are ints and texts; one whose keys are tuples of ints and texts (the empty one is both) -/
  | dK (kvs : List (Key × V)) | dT (kvs : List (List Key × V))
  /-- a set of ints: its members, its size -/
  | set (S : Int → Bool) (n : Nat)
  /-- an instance of the class at C, its dict at dx, its attributes -/
  | ins (C dx : Addr) (fs : List (Str × V))
  /-- the dict of the instance at x -/
  | own (x : Addr)
  /-- the dict of an exception -/
  | xd (fs : List (Str × V))
  /-- a bound method, f of x -/
  | met (f x : Addr)
  /-- a range object lo, lo + 1, .. below hi -/
  | rng (lo hi : Int)
  /-- a thing that is known to the object (the script; a dict while a loop walks it): read, never written while it is so -/
  | frz (o : Obj) (u : HO)
  /-- a code object's table -/
  | tbl (ps : Array Value)
  /-- any other thing, by what is true of its one object (a def of one's own: SetO a S n := HO.ext fun h => ..) -/
  | ext (φ : Heap → Prop)

abbrev Hp := Addr → Option HO
def upd (H : Hp) (a : Addr) (o : HO) : Hp := fun b => if b = a then some o else H b
theorem upd_same {H : Hp} {a : Addr} {o : HO} : upd H a o a = some o := by unfold upd; rw [if_pos rfl]
theorem upd_ne {H : Hp} {a b : Addr} {o : HO} (h : b ≠ a) : upd H a o b = H b := by unfold upd; rw [if_neg h]
theorem upd_upd {H : Hp} {a : Addr} {o u : HO} : upd (upd H a o) a u = upd H a u := by
  funext b; unfold upd; split <;> rfl
/-- two objects of different content stand apart -/
theorem ne_of {H : Hp} {a b : Addr} {o u : HO} (h : H a = some o) (h' : H b = some u) (d : o ≠ u) : a ≠ b := by
  intro e; subst e; rw [h] at h'; exact d (Option.some.inj h')
theorem ne_of_none {H : Hp} {a b : Addr} {o : HO} (h : H a = some o) (h' : H b = none) : a ≠ b := by
  intro e; subst e; rw [h] at h'; cases h'

section
variable (P : Program) (w : World)
def ObjOk (H : Hp) (h : Heap) (a : Addr) : HO → Prop
  | .lst xs => xs.length ≤ sizeLine ∧ ∃ (its : List Value) (n : Nat), Vals xs its ∧ h.get? a = some { cls := .type "list", data := .seq its.toArray n }
  | .tup xs => xs.length ≤ sizeLine ∧ ∃ its : List Value, Vals xs its ∧ IsTup h a its.toArray
  | .dK kvs => kvs.length ≤ sizeLine ∧ (a == sysModules) = false ∧ ∃ vs, KV kvs vs ∧ h.DictOf (mixKind P w) a vs
  | .dT kvs => kvs.length ≤ sizeLine ∧ (a == sysModules) = false ∧ ∃ xs : List (List Key × Addr × Value),
      Paired (fun (p : List Key × V) (q : List Key × Addr × Value) => p.1 = q.1 ∧ H q.2.1 = some (.tup (p.1.map kV)) ∧ RelV p.2 q.2.2) kvs xs ∧
      ∃ o es ep, h.get? a = some o ∧ o.ExactDict ∧ o.data = .dict es ep ∧ es.toList = xs.map (entryOfKey (tupleKind (mixKind P w))) ∧ (xs.map (·.1)).Nodup
  | .set S n => h.SetOf (intKind P w) a S n
  | .ins C dx fs => H dx = some (.own a) ∧ fs.length ≤ 1000 ∧ dx ≠ a ∧ h.get? a = some (PySem.W.instObj C dx) ∧
      ∃ mA, h.Ns1 dx mA ∧ (∀ f, RelO (fs.lookup f) (mA f)) ∧ PySem.Within mA (fs.map (·.1))
  | .own _ => ∃ o, h.get? a = some o
  | .xd fs => ∃ mA, h.Ns1 a mA ∧ ∀ f, RelO (fs.lookup f) (mA f)
  | .rng lo hi => ∃ t u v, h.get? a = some { cls := .type "range", data := .fields #[.int lo t, .int hi u, .int 1 v] }
  | .frz o u => h.get? a = some o ∧ ObjOk H h a u
  | .tbl ps => h.get? a = some { cls := .none, data := .fields ps }
  | .met f x => h.get? a = some (PySem.W.methodObj (.ref f) (.ref x))
  | .ext φ => φ h ∧ (∃ o, h.get? a = some o) ∧ ∀ h1 h2 : Heap, φ h1 → (∀ o, h1.get? a = some o → h2.get? a = some o) → φ h2
/-- the abstract heap is held -/
def HOk (H : Hp) (h : Heap) : Prop := ∀ a o, H a = some o → ObjOk P w H h a o
end

section
variable {P : Program} {w : World} {H H' : Hp} {h h' : Heap} {a : Addr} {o : HO}
theorem ObjOk.lt (x : ObjOk P w H h a o) : a < h.objs.size := by
  cases o with
  | lst xs => obtain ⟨_, _, _, _, e⟩ := x; exact Heap.lt_size e
  | tup xs => obtain ⟨_, _, _, p⟩ := x; exact p.lt
  | dK kvs => obtain ⟨_, _, _, _, o, _, _, e, _⟩ := x; exact Heap.lt_size e
  | dT kvs => obtain ⟨_, _, _, _, o, _, _, e, _⟩ := x; exact Heap.lt_size e
  | set S n => obtain ⟨o, _, _, _, e, _⟩ := x; exact Heap.lt_size e
  | ins C dx fs => obtain ⟨_, _, _, e, _⟩ := x; exact Heap.lt_size e
  | own y => obtain ⟨_, e⟩ := x; exact Heap.lt_size e
  | xd fs => obtain ⟨_, ⟨_, _, _, e, _⟩, _⟩ := x; exact Heap.lt_size e
  | rng lo hi => obtain ⟨_, _, _, e⟩ := x; exact Heap.lt_size e
  | frz ob u => obtain ⟨e, _⟩ := x; exact Heap.lt_size e
  | tbl ps => exact Heap.lt_size (show h.get? a = some _ from x)
  | met f y => exact Heap.lt_size (show h.get? a = some _ from x)
  | ext φ => obtain ⟨_, ⟨_, e⟩, _⟩ := x; exact Heap.lt_size e
theorem Paired.mapP {α β : Type} {F G : α → β → Prop} : ∀ {l₁ : List α} {l₂ : List β}, Paired F l₁ l₂ → (∀ a b, F a b → G a b) → Paired G l₁ l₂
  | _, _, .nil, _ => .nil
  | _, _, .cons r t, f => .cons (f _ _ r) (Paired.mapP t f)
/-- what an object's description leans on: its own object, its own dict, the tuples -/
theorem ObjOk.stay (x : ObjOk P w H h a o) (k : ∀ b u, (b = a ∨ H b = some (.own a)) → h.get? b = some u → h'.get? b = some u)
    (ho : ∀ b, H b = some (.own a) → H' b = some (.own a)) (ht : ∀ b xs, H b = some (.tup xs) → H' b = some (.tup xs)) : ObjOk P w H' h' a o := by
  induction o with
  | lst xs => obtain ⟨z, its, n, r, e⟩ := x; exact ⟨z, its, n, r, k _ _ (.inl rfl) e⟩
  | tup xs => obtain ⟨z, its, r, ob, e, c⟩ := x; exact ⟨z, its, r, ob, k _ _ (.inl rfl) e, c⟩
  | dK kvs => obtain ⟨z, y, vs, r, ob, es, ep, e, c⟩ := x; exact ⟨z, y, vs, r, ob, es, ep, k _ _ (.inl rfl) e, c⟩
  | dT kvs =>
    obtain ⟨z, y, xs, r, ob, es, ep, e, c⟩ := x
    exact ⟨z, y, xs, Paired.mapP r fun p q z => ⟨z.1, ht _ _ z.2.1, z.2.2⟩, ob, es, ep, k _ _ (.inl rfl) e, c⟩
  | set S n => obtain ⟨ob, es, ep, t, e, c⟩ := x; exact ⟨ob, es, ep, t, k _ _ (.inl rfl) e, c⟩
  | ins C dx fs =>
    obtain ⟨d, z, ne, e, mA, ⟨od, es, ep, e2, c⟩, r⟩ := x
    exact ⟨ho _ d, z, ne, k _ _ (.inl rfl) e, mA, ⟨od, es, ep, k _ _ (.inr d) e2, c⟩, r⟩
  | own y => obtain ⟨ob, e⟩ := x; exact ⟨ob, k _ _ (.inl rfl) e⟩
  | xd fs => obtain ⟨mA, ⟨od, es, ep, e, c⟩, r⟩ := x; exact ⟨mA, ⟨od, es, ep, k _ _ (.inl rfl) e, c⟩, r⟩
  | rng lo hi => obtain ⟨t, u, v, e⟩ := x; exact ⟨t, u, v, k _ _ (.inl rfl) e⟩
  | frz ob u ih => obtain ⟨e, q⟩ := x; exact ⟨k _ _ (.inl rfl) e, ih q⟩
  | tbl ps =>
    have e : h.get? a = some { cls := .none, data := .fields ps } := x
    show h'.get? a = some { cls := .none, data := .fields ps }
    exact k a _ (.inl rfl) e
  | met f y =>
    have e : h.get? a = some (PySem.W.methodObj (.ref f) (.ref y)) := x
    show h'.get? a = some (PySem.W.methodObj (.ref f) (.ref y))
    exact k a _ (.inl rfl) e
  | ext φ => obtain ⟨p, ⟨o, e⟩, st⟩ := x; exact ⟨st _ _ p fun o q => k _ _ (.inl rfl) q, ⟨o, k _ _ (.inl rfl) e⟩, st⟩
theorem HOk.lt (x : HOk P w H h) (e : H a = some o) : a < h.objs.size := (x a o e).lt
theorem HOk.fresh (x : HOk P w H h) (e : h.objs.size ≤ a) : H a = none := by
  cases q : H a with
  | none => rfl
  | some u => exact absurd (Nat.lt_of_lt_of_le (x.lt q) e) (Nat.lt_irrefl _)
/-- every object of the heap is kept -/
theorem HOk.kept (x : HOk P w H h) (k : ∀ b u, h.get? b = some u → h'.get? b = some u) : HOk P w H h' := fun a o e =>
  (x a o e).stay (fun b u _ q => k b u q) (fun _ q => q) fun _ _ q => q
/-- a new object is laid and tracked -/
theorem HOk.laid (x : HOk P w H h) (k : ∀ b u, h.get? b = some u → h'.get? b = some u) (hp : h.objs.size ≤ a) (new : ObjOk P w (upd H a o) h' a o) : HOk P w (upd H a o) h' := fun b u e => by
  have hn := x.fresh hp
  by_cases hb : b = a
  · subst hb; rw [upd_same] at e; cases e; exact new
  · rw [upd_ne hb] at e
    exact (x b u e).stay (fun c v _ q => k c v q) (fun c q => by rw [upd_ne (ne_of_none q hn)]; exact q) fun c xs q => by rw [upd_ne (ne_of_none q hn)]; exact q
end

/-- what may be read as u: it is u, or a known u -/
def Rd (H : Hp) (a : Addr) (u : HO) : Prop := H a = some u ∨ ∃ o, H a = some (.frz o u)
theorem Rd.ok {P : Program} {w : World} {H : Hp} {h : Heap} {a : Addr} {u : HO} (r : Rd H a u) (x : HOk P w H h) : ObjOk P w H h a u := by
  rcases r with r | ⟨o, r⟩
  · exact x a u r
  · obtain ⟨_, q⟩ := x a _ r
    exact q
/-- what may be written -/
def Mut : Option HO → Prop
  | some (.lst _) => True
  | some (.dK _) => True
  | some (.dT _) => True
  | some (.set _ _) => True
  | some (.ins _ _ _) => True
  | some (.ext _) => True
  | _ => False
section
variable {P : Program} {w : World} {H : Hp} {h h' : Heap} {x e : Addr} {o' : HO}
/-- the object at e is changed: x itself, or the dict of the instance x -/
theorem HOk.write (ok : HOk P w H h) (mu : Mut (H x)) (he : e = x ∨ H e = some (.own x)) (k : ∀ b u, b ≠ e → h.get? b = some u → h'.get? b = some u) (heo : ∃ u, h'.get? e = some u)
    (new : ObjOk P w (upd H x o') h' x o') : HOk P w (upd H x o') h' := fun b u q => by
  have nown : ∀ c y, H c = some (.own y) → c ≠ x := fun c y r z => by subst z; rw [r] at mu; exact mu
  have ntup : ∀ c xs, H c = some (.tup xs) → c ≠ x := fun c xs r z => by subst z; rw [r] at mu; exact mu
  by_cases hb : b = x
  · subst hb; rw [upd_same] at q; cases q; exact new
  · rw [upd_ne hb] at q
    by_cases hbe : b = e
    · have q' : H b = some (.own x) := by
        rcases he with z | z
        · exact absurd (hbe.trans z) hb
        · rw [hbe]; exact z
      rw [q] at q'; cases q'
      obtain ⟨v, hv⟩ := heo
      exact ⟨v, by rw [hbe]; exact hv⟩
    · refine (ok b u q).stay (fun c v hc r => k c v ?_ r) (fun c r => by rw [upd_ne (nown c b r)]; exact r) fun c xs r => by rw [upd_ne (ntup c xs r)]; exact r
      rcases hc with rfl | hc
      · exact hbe
      · rintro rfl
        rcases he with z | z
        · exact nown c b hc z
        · rw [hc] at z; cases z; exact hb rfl
end

/-! ### kept unless tracked; of the frames at fs (the callers') the slots may change (an exception that passes writes there); of the records at ex (iterators) nothing is said -/
structure Un (fs ex : List Addr) (H H' : Hp) (h h' : Heap) : Prop where
  keep : ∀ b o, h.get? b = some o → H b = none → b ∉ fs → b ∉ ex → h'.get? b = some o
  slot : ∀ b o, h.get? b = some o → H b = none → b ∈ fs → b ∉ ex → ∃ sl, h'.get? b = some { o with slots := sl }
  free : ∀ b o, h.get? b = some o → H b = none → b ∉ ex → H' b = none
  there : ∀ b o, h.get? b = some o → b ∉ ex → ∃ o', h'.get? b = some o'
  tups : ∀ b xs, H b = some (.tup xs) → H' b = some (.tup xs)
  frzs : ∀ b o u, H b = some (.frz o u) → H' b = some (.frz o u)
  tbls : ∀ b ps, H b = some (.tbl ps) → ∃ more, H' b = some (.tbl (ps ++ more))
section
variable {fs fs' ex ex' : List Addr} {H H1 H2 : Hp} {h h1 h2 h' : Heap} {a x e : Addr} {o : HO}
theorem Un.any (u : Un fs ex H H1 h h1) {b : Addr} {ob : Obj} (q : h.get? b = some ob) (n : H b = none) (hx : b ∉ ex) : ∃ sl, h1.get? b = some { ob with slots := sl } := by
  by_cases hb : b ∈ fs
  · exact u.slot b ob q n hb hx
  · exact ⟨ob.slots, u.keep b ob q n hb hx⟩
theorem Un.kept (k : ∀ b u, h.get? b = some u → h'.get? b = some u) : Un fs ex H H h h' :=
  ⟨fun b ob q _ _ _ => k b ob q, fun b ob q _ _ _ => ⟨ob.slots, k b ob q⟩, fun _ _ _ n _ => n, fun b ob q _ => ⟨ob, k b ob q⟩, fun _ _ q => q, fun _ _ _ q => q, fun _ ps q => ⟨#[], by rw [q]; simp⟩⟩
theorem Un.refl : Un fs ex H H h h := Un.kept fun _ _ q => q
theorem Un.laid (k : ∀ b u, h.get? b = some u → h'.get? b = some u) (hp : h.objs.size ≤ a) (hn : H a = none) : Un fs ex H (upd H a o) h h' where
  keep := fun b u q _ _ _ => k b u q
  slot := fun b u q _ _ _ => ⟨u.slots, k b u q⟩
  free := fun b u q n _ => by rw [upd_ne (Nat.ne_of_lt (Nat.lt_of_lt_of_le (Heap.lt_size q) hp))]; exact n
  there := fun b u q _ => ⟨u, k b u q⟩
  tups := fun b xs q => by rw [upd_ne (ne_of_none q hn)]; exact q
  frzs := fun b u xs q => by rw [upd_ne (ne_of_none q hn)]; exact q
  tbls := fun b ps q => ⟨#[], by rw [upd_ne (ne_of_none q hn), q]; simp⟩
theorem Un.write (mu : Mut (H x)) (he : e = x ∨ H e = some (.own x)) (k : ∀ b u, b ≠ e → h.get? b = some u → h'.get? b = some u) (heo : ∃ u, h'.get? e = some u) : Un fs ex H (upd H x o) h h' := by
  have hx : ∀ b, H b = none → b ≠ x := fun b n z => by subst z; rw [n] at mu; exact mu
  have hb : ∀ b, H b = none → b ≠ e := fun b n z => by
    subst z
    rcases he with r | r
    · exact hx b n r
    · rw [n] at r; cases r
  have hm : ∀ b u, H b = some u → ¬ Mut (some u) → b ≠ x := fun b u q nm z => by subst z; rw [q] at mu; exact nm mu
  refine ⟨fun b u q n _ _ => k b u (hb b n) q, fun b u q n _ _ => ⟨u.slots, k b u (hb b n) q⟩, fun b u q n _ => by rw [upd_ne (hx b n)]; exact n, fun b u q _ => ?_,
    fun b xs q => by rw [upd_ne (hm b _ q fun z => z)]; exact q, fun b u xs q => by rw [upd_ne (hm b _ q fun z => z)]; exact q, fun b ps q => ⟨#[], by rw [upd_ne (hm b _ q fun z => z), q]; simp⟩⟩
  by_cases hbe : b = e
  · subst hbe; exact heo
  · exact ⟨u, k b u hbe q⟩
end

/-! ### the heap without what is tracked -/
def trk (h : Heap) (H : Hp) : List Addr := (List.range h.objs.size).filter fun a => (H a).isSome
def hidT (h : Heap) (H : Hp) : Heap := PySem.W.hideAll h (trk h H)
theorem hidT_size (h : Heap) (H : Hp) : (hidT h H).objs.size = h.objs.size := PySem.W.hideAll_size _ _
theorem hidT_get {h : Heap} {H : Hp} {b : Addr} {o : Obj} (e : h.get? b = some o) (n : H b = none) : (hidT h H).get? b = some o :=
  PySem.W.hideAll_get _ e fun hm => by
    have q : (H b).isSome = true := (List.mem_filter.mp hm).2
    rw [n] at q; simp at q
theorem of_hidT {h : Heap} {H : Hp} {b : Addr} {o : Obj} (e : (hidT h H).get? b = some o) : h.get? b = some o ∧ H b = none := by
  have e' : h.get? b = some o := PySem.W.of_hideAll (trk h H) e
  refine ⟨e', ?_⟩
  cases q : H b with
  | none => rfl
  | some x =>
    have hm : b ∈ trk h H := List.mem_filter.mpr ⟨List.mem_range.mpr (Heap.lt_size e'), by simp [q]⟩
    have z : (hidT h H).get? b = none := PySem.W.hideAll_none (trk h H) hm
    rw [z] at e; cases e

/-! ### OpenK's ledger, filled with every new object but one -/
end L2

namespace L2
open PySem PySem.Spec PyProof.Rows

/-- the module's facts, over the base: the heap at the law's entry without what is tracked there -/
structure Mod (K : PySem.W.Frag) (mg : Str → Option Value) (base : Heap) : Prop where
  kin : K.In base
  glob : base.Ns mainGlobals mg
  blt : ∃ mb, base.Ns builtinsNs mb ∧ ∀ x : Str, x ≠ "__name__" → mb x = bootBuiltins x
  nolimit : base.NoLimit

/-- the context: a def's body (or a comprehension's block) running. base: fixed through the whole law; s₀, H₀: the entry; outer: the frames whose slots others may change (a def's callers); stack: all frames that run;
   ex: iterators that were made ahead of the entry and are walked here (a comprehension's); fn: the names whose cells were made at the entry (a def: all; a comprehension's block: its own); calm: not within an except suite; pn: pins that every state bears; xe: what is wanted of an exception that leaves the code -/
structure Cx where
  prog : Program
  w : World
  K : PySem.W.Frag
  mg : Str → Option Value
  base : Heap
  A : Around
  N : List Str
  s₀ : Shared
  H₀ : Hp
  env : Env
  outer : List Env
  stack : List Env
  ex : List Addr
  fn : Str → Bool
  calm : Bool
  pn : List (Addr × Obj)
  xe : Value → Shared → Prop
/-- the callers' frames -/
def frs (l : List Env) : List Addr := l.filterMap (·.frame)
abbrev Cx.fs (X : Cx) : List Addr := frs X.outer

def Vis (sc : Scope) (x : Str) : Prop := sc.names.lookup x = some .local ∨ sc.names.lookup x = some .cell ∨ sc.names.lookup x = some .free
def Loc (sc : Scope) (x : Str) : Prop := sc.names.lookup x = some .local ∨ sc.names.lookup x = some .cell
def Look (env : Env) (h : Heap) (m : Str → Option Value) (x : Str) (u : Value) : Prop :=
  (env.kindOf x = some .local ∧ m x = some u) ∨ ((env.kindOf x = some .cell ∨ env.kindOf x = some .free) ∧ ∃ c, env.cells.lookup x = some c ∧ h.IsCell c (some u))

structure Cx.Ok (X : Cx) : Prop where
  mod : Mod X.K X.mg X.base
  kind : X.env.scope.kind = .function
  glob : X.env.globals = mainGlobals
  blt : X.env.builtins = builtinsNs
  above : X.s₀.heap.objs.size ≤ X.env.locals
  inj : ∀ x y c, X.env.cells.lookup x = some c → X.env.cells.lookup y = some c → x = y
  has : ∀ x, (X.env.kindOf x = some .cell ∨ X.env.kindOf x = some .free) → ∃ c, X.env.cells.lookup x = some c
  cab : ∀ x c, X.fn x = true → X.env.cells.lookup x = some c → X.s₀.heap.objs.size ≤ c
  hd : X.calm = true → X.A.handled = none
  frames : X.A.frames = some X.stack
  stk : X.stack = X.outer ∨ (X.stack = X.env :: X.outer ∧ X.env.frame = some X.env.locals)
  exf : ∀ b ∈ X.ex, b ≠ X.env.locals ∧ ∀ x c, X.env.cells.lookup x = some c → c ≠ b
  bs : ∀ b o, X.base.get? b = some o → X.s₀.heap.get? b = some o ∧ X.H₀ b = none
  bsz : X.base.objs.size ≤ X.s₀.heap.objs.size
  noex : ∀ b o, X.base.get? b = some o → b ∉ X.ex
  exfs : ∀ b ∈ X.ex, b ∉ X.fs
  funs : X.s₀.heap.FunFrames X.base X.outer
  frf : ∀ b ∈ X.fs, X.H₀ b = none

structure Inv (X : Cx) (pins : List (Addr × Obj)) (σ : List (Option V)) (H : Hp) (s : Shared) : Prop where
  ok : X.Ok
  os : s.os = X.s₀.os
  bare : AllBare s.gens
  base : Un X.fs X.ex X.H₀ H X.s₀.heap s.heap
  loc : ∃ m, s.heap.Ns X.env.locals m ∧ ∀ (i : Nat) (x : Str) (v : V), X.N[i]? = some x → σ[i]? = some (some v) → Vis X.env.scope x → ∃ u, RelV v u ∧ Look X.env s.heap m x u
  cell : ∀ x c, X.env.cells.lookup x = some c → ∃ v, s.heap.IsCell c v
  free : H X.env.locals = none
  freeC : ∀ x c, X.env.cells.lookup x = some c → H c = none
  pin : ∀ p ∈ X.pn ++ pins, s.heap.get? p.1 = some p.2 ∧ H p.1 = none ∧ p.1 ≠ X.env.locals ∧ p.1 ∉ X.fs ∧ ∀ v, p.2.data ≠ .cell v
  hok : HOk X.prog X.w H s.heap
  len : σ.length = X.N.length

section
variable {X : Cx} {pins : List (Addr × Obj)} {σ : List (Option V)} {H H' : Hp} {s : Shared} {h' : Heap}

theorem Cx.Ok.nofr (ok : X.Ok) {b : Addr} {o : Obj} (e : X.base.get? b = some o) : b ∉ X.fs := fun hb => by
  have := (ok.funs.mem hb).1
  rw [e] at this; cases this
theorem Inv.bs (I : Inv X pins σ H s) : ∀ b o, X.base.get? b = some o → s.heap.get? b = some o ∧ H b = none := fun b o e =>
  ⟨I.base.keep b o (I.ok.bs b o e).1 (I.ok.bs b o e).2 (I.ok.nofr e) (I.ok.noex b o e), I.base.free b o (I.ok.bs b o e).1 (I.ok.bs b o e).2 (I.ok.noex b o e)⟩
theorem Inv.bk (I : Inv X pins σ H s) : ∀ b o, X.base.get? b = some o → s.heap.get? b = some o := fun b o e => (I.bs b o e).1
theorem Inv.mod (I : Inv X pins σ H s) : Mod X.K X.mg X.base := I.ok.mod
theorem Inv.kIn (I : Inv X pins σ H s) : X.K.In s.heap := I.ok.mod.kin.keeps I.bk
theorem Inv.lt (I : Inv X pins σ H s) : X.env.locals < s.heap.objs.size := let ⟨_, hn, _⟩ := I.loc; hn.lt
theorem Inv.sz (I : Inv X pins σ H s) : X.s₀.heap.objs.size ≤ s.heap.objs.size := Nat.le_trans I.ok.above (Nat.le_of_lt I.lt)
theorem Inv.nofs (I : Inv X pins σ H s) {a : Addr} (h : s.heap.objs.size ≤ a) : a ∉ X.fs := fun hb => by
  obtain ⟨_, o, ho, _⟩ := I.ok.funs.mem hb
  exact absurd (Nat.lt_of_lt_of_le (Heap.lt_size ho) (Nat.le_trans I.sz h)) (Nat.lt_irrefl _)
theorem Inv.cne (I : Inv X pins σ H s) : ∀ x c, X.env.cells.lookup x = some c → c ≠ X.env.locals := fun x c e z => by
  obtain ⟨v, o, ho, hd⟩ := I.cell x c e
  obtain ⟨m, ⟨o', es, ep, ho', hd', _⟩, _⟩ := I.loc
  rw [z, ho'] at ho; cases ho; rw [hd'] at hd; cases hd
theorem Inv.funs (I : Inv X pins σ H s) : s.heap.FunFrames X.base X.outer := by
  have all : ∀ (l : List Env), (∀ b ∈ frs l, b ∈ X.fs) → X.s₀.heap.FunFrames X.base l → s.heap.FunFrames X.base l := by
    intro l
    induction l with
    | nil => intro _ _; trivial
    | cons env r ih =>
      intro hs hl
      obtain ⟨hk, ⟨L, o, hf, hn, ho, hd⟩, hr⟩ := hl
      have hL : L ∈ X.fs := hs L (by unfold frs; rw [List.filterMap_cons, hf]; exact List.mem_cons_self)
      obtain ⟨sl, e⟩ := I.base.slot L o ho (I.ok.frf L hL) hL fun z => I.ok.exfs L z hL
      exact ⟨hk, ⟨L, _, hf, hn, e, hd⟩, ih (fun b hb => hs b (by unfold frs; rw [List.filterMap_cons, hf]; exact List.mem_cons_of_mem _ hb)) hr⟩
  exact all X.outer (fun _ hb => hb) I.ok.funs

/-- the frames that run, for a call -/
theorem Inv.stack (I : Inv X pins σ H s) : s.heap.FunFrames X.base X.stack := by
  rcases I.ok.stk with e | ⟨e, hf⟩
  · rw [e]; exact I.funs
  · rw [e]
    obtain ⟨m, hn, _⟩ := I.loc
    refine .cons (by rw [I.ok.kind]; decide) hf hn ?_ I.funs
    exact Heap.get?_none_of_le (Nat.le_trans I.ok.bsz I.ok.above)
theorem Inv.stkSub (I : Inv X pins σ H s) : ∀ b ∈ frs X.stack, b ∈ X.env.locals :: X.fs := fun b hb => by
  rcases I.ok.stk with e | ⟨e, hf⟩
  · rw [e] at hb; exact List.mem_cons_of_mem _ hb
  · rw [e] at hb
    unfold frs at hb
    rw [List.filterMap_cons, hf] at hb
    exact hb
theorem Inv.stkFree (I : Inv X pins σ H s) : ∀ b ∈ frs X.stack, H b = none := fun b hb => by
  rcases List.mem_cons.mp (I.stkSub b hb) with e | hb
  · rw [e]; exact I.free
  · obtain ⟨_, o, ho, _⟩ := I.ok.funs.mem hb
    exact I.base.free b o ho (I.ok.frf b hb) fun z => I.ok.exfs b z hb

/-- THE STEP: the untracked objects but the frame and the records at ch are kept (the callers' frames up to slots), the frame's map is kept, the new abstract heap is held -/
theorem Inv.step {g' : Array GenState} {t' : Nat} {d' : Drawn} {ch : List Addr} (I : Inv X pins σ H s)
    (hch : ∀ b ∈ ch, (b ∈ X.ex ∨ X.s₀.heap.objs.size ≤ b) ∧ b ≠ X.env.locals ∧ (∀ x c, X.env.cells.lookup x = some c → c ≠ b) ∧ ∀ p ∈ X.pn ++ pins, p.1 ≠ b)
    (keep : ∀ b o, b ≠ X.env.locals → b ∉ X.fs → b ∉ ch → s.heap.get? b = some o → H b = none → h'.get? b = some o)
    (slot : ∀ b o, b ≠ X.env.locals → b ∈ X.fs → b ∉ ch → s.heap.get? b = some o → H b = none → ∃ sl, h'.get? b = some { o with slots := sl }) (free : ∀ b o, b ∉ ch → s.heap.get? b = some o → H b = none → H' b = none)
    (there : ∀ b o, b ∉ ch → s.heap.get? b = some o → ∃ o', h'.get? b = some o')
    (tups : ∀ b xs, H b = some (.tup xs) → H' b = some (.tup xs)) (frzs : ∀ b o u, H b = some (.frz o u) → H' b = some (.frz o u)) (tbls : ∀ b ps, H b = some (.tbl ps) → ∃ more, H' b = some (.tbl (ps ++ more)))
    (ns : ∀ m, s.heap.Ns X.env.locals m → h'.Ns X.env.locals m) (hok : HOk X.prog X.w H' h') (hg : AllBare g') :
    Inv X pins σ H' { s with heap := h', gens := g', drawn := d', toks := t' } := by
  have neL : ∀ b o, X.s₀.heap.get? b = some o → b ≠ X.env.locals := fun b o e => Nat.ne_of_lt (Nat.lt_of_lt_of_le (Heap.lt_size e) I.ok.above)
  have neC : ∀ b o, X.s₀.heap.get? b = some o → b ∉ X.ex → b ∉ ch := fun b o e hx hb => by
    rcases (hch b hb).1 with z | z
    · exact hx z
    · exact absurd (Nat.lt_of_lt_of_le (Heap.lt_size e) z) (Nat.lt_irrefl _)
  have cellK : ∀ x c, X.env.cells.lookup x = some c → ∀ v, s.heap.IsCell c v → h'.IsCell c v := fun x c e v ⟨o, ho, hd⟩ => by
    have nch : c ∉ ch := fun z => (hch c z).2.2.1 x c e rfl
    by_cases hc : c ∈ X.fs
    · obtain ⟨sl, q⟩ := slot c o (I.cne x c e) hc nch ho (I.freeC x c e)
      exact ⟨_, q, hd⟩
    · exact ⟨o, keep c o (I.cne x c e) hc nch ho (I.freeC x c e), hd⟩
  refine ⟨I.ok, I.os, hg, ⟨fun b o e n hb hx => ?_, fun b o e n hb hx => ?_, fun b o e n hx => ?_, fun b o e hx => ?_, fun b xs e => tups b xs (I.base.tups b xs e), fun b o xs e => frzs b o xs (I.base.frzs b o xs e), fun b ps e => ?_⟩, ?_, fun x c e => ?_, ?_, fun x c e => ?_, fun p hp => ?_, hok, I.len⟩
  · exact keep b o (neL b o e) hb (neC b o e hx) (I.base.keep b o e n hb hx) (I.base.free b o e n hx)
  · obtain ⟨sl, e1⟩ := I.base.slot b o e n hb hx
    obtain ⟨sl', e2⟩ := slot b _ (neL b o e) hb (neC b o e hx) e1 (I.base.free b o e n hx)
    exact ⟨sl', e2⟩
  · obtain ⟨o', e1⟩ := I.base.there b o e hx
    exact free b o' (neC b o e hx) e1 (I.base.free b o e n hx)
  · obtain ⟨o', e1⟩ := I.base.there b o e hx
    exact there b o' (neC b o e hx) e1
  · obtain ⟨m1, e1⟩ := I.base.tbls b ps e
    obtain ⟨m2, e2⟩ := tbls b _ e1
    exact ⟨m1 ++ m2, by rw [e2, Array.append_assoc]⟩
  · obtain ⟨m, hn, hl⟩ := I.loc
    refine ⟨m, ns m hn, fun i x v e1 e2 e3 => ?_⟩
    obtain ⟨u, r, l⟩ := hl i x v e1 e2 e3
    refine ⟨u, r, ?_⟩
    rcases l with l | ⟨k, c, e, z⟩
    · exact .inl l
    · exact .inr ⟨k, c, e, cellK x c e _ z⟩
  · obtain ⟨v, z⟩ := I.cell x c e
    exact ⟨v, cellK x c e v z⟩
  · obtain ⟨m, ⟨o, _, _, ho, _⟩, _⟩ := I.loc
    exact free _ o (fun z => (hch _ z).2.1 rfl) ho I.free
  · obtain ⟨v, o, ho, hd⟩ := I.cell x c e
    exact free c o (fun z => (hch c z).2.2.1 x c e rfl) ho (I.freeC x c e)
  · obtain ⟨e, n, ne, nf, d⟩ := I.pin p hp
    have nch : p.1 ∉ ch := fun z => (hch p.1 z).2.2.2 p hp rfl
    exact ⟨keep p.1 p.2 ne nf nch e n, free p.1 p.2 nch e n, ne, nf, d⟩
/-- .. where the frame's own object is kept too -/
theorem Inv.un {t' : Nat} (I : Inv X pins σ H s) (u : Un X.fs [] H H' s.heap h') (hok : HOk X.prog X.w H' h') : Inv X pins σ H' { s with heap := h', toks := t' } := by
  obtain ⟨m, ⟨o, es, ep, ho, r⟩, _⟩ := id I.loc
  obtain ⟨sl, hL⟩ := u.any ho I.free (by simp)
  exact I.step (g' := s.gens) (d' := s.drawn) (ch := []) (fun _ z => nomatch z) (fun b o _ hb _ e n => u.keep b o e n hb (by simp)) (fun b o _ hb _ e n => u.slot b o e n hb (by simp)) (fun b o _ e n => u.free b o e n (by simp)) (fun b o _ e => u.there b o e (by simp)) u.tups u.frzs u.tbls (fun m' hm => by
    obtain ⟨o', es', ep', ho', r'⟩ := hm
    rw [ho] at ho'; cases ho'
    exact ⟨_, es', ep', hL, r'⟩) hok I.bare
/-- behind a call (or a comprehension's block): the slots of this frame may have changed too, the records at ch may have turned -/
theorem Inv.call {g' : Array GenState} {t' : Nat} {d' : Drawn} {ch : List Addr} (I : Inv X pins σ H s) (u : Un (frs X.stack) ch H H' s.heap h') (hok : HOk X.prog X.w H' h') (hg : AllBare g')
    (hch : ∀ b ∈ ch, (b ∈ X.ex ∨ X.s₀.heap.objs.size ≤ b) ∧ b ≠ X.env.locals ∧ (∀ x c, X.env.cells.lookup x = some c → c ≠ b) ∧ ∀ p ∈ X.pn ++ pins, p.1 ≠ b) :
    Inv X pins σ H' { s with heap := h', gens := g', drawn := d', toks := t' } := by
  obtain ⟨m, ⟨o, es, ep, ho, r⟩, _⟩ := id I.loc
  obtain ⟨sl, hL⟩ := u.any ho I.free fun z => (hch _ z).2.1 rfl
  exact I.step (ch := ch) hch (fun b o hL hb hc e n => u.keep b o e n (fun z => (List.mem_cons.mp (I.stkSub b z)).elim hL hb) hc) (fun b o _ _ hc e n => u.any e n hc) (fun b o hc e n => u.free b o e n hc) (fun b o hc e => u.there b o e hc) u.tups u.frzs u.tbls (fun m' hm => by
    obtain ⟨o', es', ep', ho', r'⟩ := hm
    rw [ho] at ho'; cases ho'
    exact ⟨_, es', ep', hL, r'⟩) hok hg
/-- an untracked record of ours (an iterator) has turned -/
theorem Inv.turned {t' : Nat} {it : Addr} (I : Inv X pins σ H s) (k : ∀ b o, b ≠ it → s.heap.get? b = some o → h'.get? b = some o) (hn : H it = none) (hL : it ≠ X.env.locals)
    (h1 : it ∈ X.ex ∨ X.s₀.heap.objs.size ≤ it) (h2 : ∀ x c, X.env.cells.lookup x = some c → c ≠ it) (h3 : ∀ p ∈ X.pn ++ pins, p.1 ≠ it) : Inv X pins σ H { s with heap := h', toks := t' } := by
  have nit : ∀ b u, H b = some u → b ≠ it := fun b u e z => by rw [z, hn] at e; cases e
  refine I.step (g' := s.gens) (d' := s.drawn) (ch := [it]) (fun b hb => ?_) (fun b o _ _ hc e _ => k b o (fun z => hc (by simp [z])) e) (fun b o _ _ hc e _ => ⟨o.slots, k b o (fun z => hc (by simp [z])) e⟩) (fun _ _ _ _ n => n)
    (fun b o hc e => ⟨o, k b o (fun z => hc (by simp [z])) e⟩) (fun _ _ e => e) (fun _ _ _ e => e) (fun b ps e => ⟨#[], by rw [e]; simp⟩) (fun m hm => ?_) (fun b u e => ?_) I.bare
  · have e : b = it := by simpa using hb
    subst e
    exact ⟨h1, hL, h2, h3⟩
  · obtain ⟨o, es, ep, ho, r⟩ := hm
    exact ⟨o, es, ep, k _ o (Ne.symm hL) ho, r⟩
  · refine (I.hok b u e).stay (fun c v hc q => k c v ?_ q) (fun _ q => q) fun _ _ q => q
    rcases hc with z | z
    · rw [z]; exact nit b u e
    · exact nit c _ z
theorem Inv.tok (I : Inv X pins σ H s) (t : Nat) : Inv X pins σ H { s with toks := t } := I.un (h' := s.heap) (t' := t) Un.refl I.hok
/-- all objects kept -/
theorem Inv.kept {t' : Nat} (I : Inv X pins σ H s) (k : ∀ b u, s.heap.get? b = some u → h'.get? b = some u) : Inv X pins σ H { s with heap := h', toks := t' } := I.un (Un.kept k) (I.hok.kept k)
/-- a new object laid and tracked -/
theorem Inv.laid {a : Addr} {o : HO} {t' : Nat} (I : Inv X pins σ H s) (k : ∀ b u, s.heap.get? b = some u → h'.get? b = some u) (hp : s.heap.objs.size ≤ a) (new : ObjOk X.prog X.w (upd H a o) h' a o) :
    Inv X pins σ (upd H a o) { s with heap := h', toks := t' } := I.un (Un.laid k hp (I.hok.fresh hp)) (I.hok.laid k hp new)
/-- an object written -/
theorem Inv.write {x e : Addr} {o : HO} {t' : Nat} (I : Inv X pins σ H s) (mu : Mut (H x)) (he : e = x ∨ H e = some (.own x)) (k : ∀ b u, b ≠ e → s.heap.get? b = some u → h'.get? b = some u) (heo : ∃ u, h'.get? e = some u)
    (new : ObjOk X.prog X.w (upd H x o) h' x o) : Inv X pins σ (upd H x o) { s with heap := h', toks := t' } := I.un (Un.write mu he k heo) (I.hok.write mu he k heo new)
theorem Inv.pins_of {pins' : List (Addr × Obj)} (I : Inv X pins σ H s) (h : ∀ p ∈ pins', s.heap.get? p.1 = some p.2 ∧ H p.1 = none ∧ p.1 ≠ X.env.locals ∧ p.1 ∉ X.fs ∧ ∀ v, p.2.data ≠ .cell v) : Inv X pins' σ H s :=
  ⟨I.ok, I.os, I.bare, I.base, I.loc, I.cell, I.free, I.freeC, fun p hp => (List.mem_append.mp hp).elim (fun z => I.pin p (List.mem_append_left _ z)) (h p), I.hok, I.len⟩

theorem nodup_ix {N : List Str} (hN : N.Nodup) {i j : Nat} {x : Str} (a : N[i]? = some x) (b : N[j]? = some x) : i = j := by
  obtain ⟨h1, e1⟩ := List.getElem?_eq_some_iff.mp a
  obtain ⟨h2, e2⟩ := List.getElem?_eq_some_iff.mp b
  exact (List.getElem_inj hN).mp (e1.trans e2.symm)

/-- a name is stored; what changed -/
theorem store_ok2 {M : Model} {A : Around} {E : Value → Shared → Prop} {i : Nat} {x : Str} {v : V} {u : Value} {Q : Unit → Shared → Prop} (I : Inv X pins σ H s) (hN : X.N.Nodup) (hi : X.N[i]? = some x) (hx : Loc X.env.scope x) (r : RelV v u)
    (h : ∀ s', Inv X pins (σ.set i (some v)) H s' → (∃ a, Heap.SameBut a s.heap s'.heap ∧ (a = X.env.locals ∨ X.env.cells.lookup x = some a)) → Q () s') (hf : X.fn x = true ∨ X.env.scope.names.lookup x = some .local := by first | exact .inl rfl | exact .inr rfl | assumption) : wpAny M A (storeName X.env x u) Q E s := by
  obtain ⟨m, hn, hl⟩ := id I.loc
  have hcls : (X.env.scope.kind == .class || (X.env.scope.kind == .module && X.env.locals != X.env.globals)) = false := by rw [I.ok.kind]; rfl
  have hiσ : i < σ.length := by rw [I.len]; exact (List.getElem?_eq_some_iff.mp hi).1
  have cne := I.cne
  have tracked : ∀ {a : Addr} {h' : Heap}, (∃ o, s.heap.get? a = some o ∧ H a = none) → Heap.SameBut a s.heap h' → HOk X.prog X.w H h' := fun {a h'} ha hs b ob e => by
    obtain ⟨_, _, hfree⟩ := ha
    refine (I.hok b ob e).stay (fun c w' hc q => (hs.2 c ?_).trans q) (fun _ q => q) fun _ _ q => q
    rintro rfl
    rcases hc with rfl | hc
    · rw [hfree] at e; cases e
    · rw [hfree] at hc; cases hc
  rcases hx with hk | hk
  · refine wpAny_storeName_local hk hn (fun h' hn' hs => ?_) hcls
    obtain ⟨oL, _, _, hoL, _⟩ := id hn
    refine h _ ⟨I.ok, I.os, I.bare, ⟨fun b o e n hb hx => ?_, fun b o e n hb hx => ?_, I.base.free, fun b o e hx => ?_, I.base.tups, I.base.frzs, I.base.tbls⟩, ⟨_, hn', fun j y v' e1 e2 e3 => ?_⟩, fun y c e => ?_, I.free, I.freeC, fun p hp => ?_, tracked ⟨oL, hoL, I.free⟩ hs, by simpa using I.len⟩ ⟨_, hs, .inl rfl⟩
    · exact (hs.2 b (Nat.ne_of_lt (Nat.lt_of_lt_of_le (Heap.lt_size e) I.ok.above))).trans (I.base.keep b o e n hb hx)
    · obtain ⟨sl, e1⟩ := I.base.slot b o e n hb hx
      exact ⟨sl, (hs.2 b (Nat.ne_of_lt (Nat.lt_of_lt_of_le (Heap.lt_size e) I.ok.above))).trans e1⟩
    · obtain ⟨o', e1⟩ := I.base.there b o e hx
      exact ⟨o', (hs.2 b (Nat.ne_of_lt (Nat.lt_of_lt_of_le (Heap.lt_size e) I.ok.above))).trans e1⟩
    · by_cases hj : j = i
      · subst hj
        rw [hi] at e1; cases e1
        rw [List.getElem?_set_self hiσ] at e2
        cases e2
        exact ⟨u, r, .inl ⟨hk, by simp⟩⟩
      · rw [List.getElem?_set_ne (Ne.symm hj)] at e2
        obtain ⟨u', r', q⟩ := hl j y v' e1 e2 e3
        refine ⟨u', r', ?_⟩
        rcases q with ⟨k, e⟩ | ⟨k, c, e, z⟩
        · refine .inl ⟨k, ?_⟩
          have : y ≠ x := fun e => hj (nodup_ix hN e1 (e ▸ hi))
          simp [this, e]
        · exact .inr ⟨k, c, e, z.sameBut hs (cne y c e)⟩
    · obtain ⟨w', z⟩ := I.cell y c e
      exact ⟨w', z.sameBut hs (cne y c e)⟩
    · obtain ⟨e, n, ne, nf, d⟩ := I.pin p hp
      exact ⟨(hs.2 p.1 ne).trans e, n, ne, nf, d⟩
  · have hfn : X.fn x = true := by
      rcases hf with z | z
      · exact z
      · rw [z] at hk; cases hk
    obtain ⟨c, hc⟩ := I.ok.has x (.inl hk)
    obtain ⟨w', z⟩ := I.cell x c hc
    refine wpAny_storeName_cell I.ok.kind hk hc z (fun h' hc' hs => ?_)
    obtain ⟨oc, hoc, hocd⟩ := id z
    refine h { s with heap := h' } ⟨I.ok, I.os, I.bare, ⟨fun b o e n hb hx => ?_, fun b o e n hb hx => ?_, I.base.free, fun b o e hx => ?_, I.base.tups, I.base.frzs, I.base.tbls⟩, ⟨m, hn.sameBut hs (Ne.symm (cne x c hc)), fun j y v' e1 e2 e3 => ?_⟩, fun y c' e => ?_, I.free, I.freeC, fun p hp => ?_, tracked ⟨oc, hoc, I.freeC x c hc⟩ hs, by simpa using I.len⟩ ⟨c, hs, .inr hc⟩
    · exact (hs.2 b (Nat.ne_of_lt (Nat.lt_of_lt_of_le (Heap.lt_size e) (I.ok.cab x c hfn hc)))).trans (I.base.keep b o e n hb hx)
    · obtain ⟨sl, e1⟩ := I.base.slot b o e n hb hx
      exact ⟨sl, (hs.2 b (Nat.ne_of_lt (Nat.lt_of_lt_of_le (Heap.lt_size e) (I.ok.cab x c hfn hc)))).trans e1⟩
    · obtain ⟨o', e1⟩ := I.base.there b o e hx
      exact ⟨o', (hs.2 b (Nat.ne_of_lt (Nat.lt_of_lt_of_le (Heap.lt_size e) (I.ok.cab x c hfn hc)))).trans e1⟩
    · by_cases hj : j = i
      · subst hj
        rw [hi] at e1; cases e1
        rw [List.getElem?_set_self hiσ] at e2
        cases e2
        exact ⟨u, r, .inr ⟨.inl hk, c, hc, hc'⟩⟩
      · rw [List.getElem?_set_ne (Ne.symm hj)] at e2
        obtain ⟨u', r', q⟩ := hl j y v' e1 e2 e3
        refine ⟨u', r', ?_⟩
        rcases q with q | ⟨k, c', e, z'⟩
        · exact .inl q
        · refine .inr ⟨k, c', e, z'.sameBut hs ?_⟩
          rintro rfl
          exact hj (nodup_ix hN e1 (I.ok.inj _ _ _ e hc ▸ hi))
    · by_cases hcc : c' = c
      · subst hcc; exact ⟨_, hc'⟩
      · obtain ⟨w2, z2⟩ := I.cell y c' e
        exact ⟨w2, z2.sameBut hs hcc⟩
    · obtain ⟨e, n, ne, nf, d⟩ := I.pin p hp
      refine ⟨(hs.2 p.1 ?_).trans e, n, ne, nf, d⟩
      intro q
      rw [q, hoc] at e
      have q' : oc = p.2 := Option.some.inj e
      exact d w' (by rw [← q']; exact hocd)
theorem store_ok {M : Model} {A : Around} {E : Value → Shared → Prop} {i : Nat} {x : Str} {v : V} {u : Value} {Q : Unit → Shared → Prop} (I : Inv X pins σ H s) (hN : X.N.Nodup) (hi : X.N[i]? = some x) (hx : Loc X.env.scope x) (r : RelV v u)
    (h : ∀ s', Inv X pins (σ.set i (some v)) H s' → Q () s') (hf : X.fn x = true ∨ X.env.scope.names.lookup x = some .local := by first | exact .inl rfl | exact .inr rfl | assumption) : wpAny M A (storeName X.env x u) Q E s :=
  store_ok2 I hN hi hx r (fun s' I' _ => h s' I') hf
/-- behind a call or a block, the state as it is -/
theorem Inv.call' {s' : Shared} {ch : List Addr} (I : Inv X pins σ H s) (ho : s'.os = s.os) (u : Un (frs X.stack) ch H H' s.heap s'.heap) (hok : HOk X.prog X.w H' s'.heap) (hg : AllBare s'.gens)
    (hch : ∀ b ∈ ch, (b ∈ X.ex ∨ X.s₀.heap.objs.size ≤ b) ∧ b ≠ X.env.locals ∧ (∀ x c, X.env.cells.lookup x = some c → c ≠ b) ∧ ∀ p ∈ X.pn ++ pins, p.1 ≠ b) : Inv X pins σ H' s' := by
  obtain ⟨h', g', d', t', o'⟩ := s'
  have e : o' = s.os := ho
  subst e
  exact I.call (g' := g') (t' := t') (d' := d') u hok hg hch
end

/-! ### the judgements -/
/-- an exception: its class, its own dict's address (where it has one), the abstract heap behind it -/
abbrev XK := Value → Option Addr → Hp → Prop
abbrev St := List (Option V)
abbrev VK := V → Hp → Prop
/-- an expression's reading; a test's; an argument list's -/
abbrev TE := St → Hp → VK → Prop
abbrev TT := St → Hp → (Bool → Hp → Prop) → Prop
abbrev TA := St → Hp → (List V → Hp → Prop) → Prop
/-- what is wanted behind a statement -/
structure Ends where
  nx : St → Hp → Prop
  rt : VK
  bk : St → Hp → Prop := fun _ _ => False
  ct : St → Hp → Prop := fun _ _ => False
abbrev TS := Ends → St → Hp → Prop

def EP (X : Cx) (pins : List (Addr × Obj)) (σ : St) (Q : VK) (u : Value) (s' : Shared) : Prop := ∃ v H', Inv X pins σ H' s' ∧ RelV v u ∧ Q v H'
def TP (X : Cx) (pins : List (Addr × Obj)) (σ : St) (Q : Bool → Hp → Prop) (b : Bool) (s' : Shared) : Prop := ∃ H', Inv X pins σ H' s' ∧ Q b H'
def AP (X : Cx) (pins : List (Addr × Obj)) (σ : St) (Q : List V → Hp → Prop) (us : List Value) (s' : Shared) : Prop := ∃ vs H', Inv X pins σ H' s' ∧ Vals vs us ∧ Q vs H'
def SP (X : Cx) (pins : List (Addr × Obj)) (D : Ends) (f : Flow) (s' : Shared) : Prop :=
  match f with
  | .next => ∃ σ' H', Inv X pins σ' H' s' ∧ D.nx σ' H'
  | .brk => ∃ σ' H', Inv X pins σ' H' s' ∧ D.bk σ' H'
  | .cont => ∃ σ' H', Inv X pins σ' H' s' ∧ D.ct σ' H'
  | .ret u => ∃ v σ' H', Inv X pins σ' H' s' ∧ RelV v u ∧ D.rt v H'

def PE (X : Cx) (e : Expr) (t : TE) : Prop :=
  ∀ (pins : List (Addr × Obj)) (s : Shared) (σ : St) (H : Hp) (Q : VK), Inv X pins σ H s → t σ H Q → wpAny (model X.prog X.w) X.A (eval e X.env) (EP X pins σ Q) X.xe s
def PT (X : Cx) (e : Expr) (t : TT) : Prop :=
  ∀ (pins : List (Addr × Obj)) (s : Shared) (σ : St) (H : Hp) (Q : Bool → Hp → Prop), Inv X pins σ H s → t σ H Q → wpAny (model X.prog X.w) X.A (isTrue e X.env (eval e X.env)) (TP X pins σ Q) X.xe s
/-- a test whatever its 'whole' is (and, or) -/
def PW (X : Cx) (e : Expr) (t : TT) : Prop :=
  ∀ (whole : Sem Value) (pins : List (Addr × Obj)) (s : Shared) (σ : St) (H : Hp) (Q : Bool → Hp → Prop), Inv X pins σ H s → t σ H Q → wpAny (model X.prog X.w) X.A (isTrue e X.env whole) (TP X pins σ Q) X.xe s
theorem PW.pt {X : Cx} {e : Expr} {t : TT} (h : PW X e t) : PT X e t := h _
/-- an argument list (no star), from the left -/
def PA (X : Cx) (es : List Expr) (t : TA) : Prop :=
  ∀ (pos : Pos) (pins : List (Addr × Obj)) (s : Shared) (σ : St) (H : Hp) (Q : List V → Hp → Prop), Inv X pins σ H s → t σ H Q → wpAny (model X.prog X.w) X.A (spliced (backTo pos (starEach es X.env))) (AP X pins σ Q) X.xe s
def PS (X : Cx) (st : Stmt) (t : TS) : Prop :=
  ∀ (pins : List (Addr × Obj)) (s : Shared) (σ : St) (H : Hp) (D : Ends), Inv X pins σ H s → t D σ H → wpAny (model X.prog X.w) X.A (exec st X.env) (SP X pins D) X.xe s
def PSs (X : Cx) (st : List Stmt) (t : TS) : Prop :=
  ∀ (pins : List (Addr × Obj)) (s : Shared) (σ : St) (H : Hp) (D : Ends), Inv X pins σ H s → t D σ H → wpAny (model X.prog X.w) X.A (execs st X.env) (SP X pins D) X.xe s
/-- weaken the end -/
theorem thn {α : Type} {t : Sem α} {Q Q' : α → Shared → Prop} {M : Model} {A : Around} {E : Value → Shared → Prop} {s : Shared} (h : wpAny M A t Q E s) (hQ : ∀ a s, Q a s → Q' a s) : wpAny M A t Q' E s := wpAny_mono h hQ fun _ _ x => x
end L2

namespace L2
open PySem PySem.Spec PyProof.Rows
section
variable {X : Cx}


/-! ### names and constants -/
def tVar (i : Nat) : TE := fun σ H Q => ∃ v, σ[i]? = some (some v) ∧ Q v H
def tC (v : V) : TE := fun _ H Q => Q v H
theorem pe_var {i : Nat} {x : Str} {pos : Pos} (hN : X.N[i]? = some x) (hv : Vis X.env.scope x) (hd : (x == ("__debug__" : Str)) = false := by decide) (hcd : (x == ("__classdict__" : Str)) = false := by decide) : PE X (.Name x pos) (tVar i) := by
  intro pins s σ H Q I h
  obtain ⟨v, e, h⟩ := h
  obtain ⟨m, hn, hl⟩ := I.loc
  obtain ⟨u, r, l⟩ := hl i x v hN e hv
  have fin : EP X pins σ Q u s := ⟨v, H, I, r, h⟩
  rcases l with ⟨hk, hm⟩ | ⟨hk, c, hc, hcell⟩
  · exact wpAny_Name (wpAny_loadName_local I.ok.kind hk hn hm fin) hd
  · rcases hk with hk | hk
    · exact wpAny_Name (wpAny_loadName_cell I.ok.kind hk hc hcell fin) hd
    · exact wpAny_Name (wpAny_loadName_free I.ok.kind hk hc hcell fin hcd) hd
theorem pe_int {i j pos} : PE X (.Constant (.int i) j pos) (tC (.int i)) := fun _ _ _ H _ I h => wpAny_Constant_int ⟨.int i, H, I.tok _, ⟨_, rfl⟩, h⟩
theorem pe_bl {b j pos} : PE X (.Constant (.bool b) j pos) (tC (.bl b)) := fun _ _ _ H _ I h => Constant_bool ⟨.bl b, H, I, rfl, h⟩
theorem pe_non {j pos} : PE X (.Constant .none j pos) (tC .non) := fun _ _ _ H _ I h => Constant_none ⟨.non, H, I, rfl, h⟩
theorem pe_str {x j pos} : PE X (.Constant (.str x) j pos) (tC (.str x)) := fun _ _ _ H _ I h => Calls.Constant_str ⟨.str x, H, I.tok _, ⟨_, rfl⟩, h⟩

/-- a global name of the def -/
def Gl (X : Cx) (x : Str) : Prop := X.env.kindOf x = some .globalImplicit
theorem ld_glob {E : Value → Shared → Prop} {pins : List (Addr × Obj)} {s : Shared} {σ : St} {H : Hp} {x : Str} {u : Value} {pos : Pos} {Q : Value → Shared → Prop} (I : Inv X pins σ H s) (hg : Gl X x) (hm : X.mg x = some u) (h : Q u s)
    (hd : (x == ("__debug__" : Str)) = false := by decide) : wpAny (model X.prog X.w) X.A (eval (.Name x pos) X.env) Q E s :=
  Calls.Name_function_global I.ok.kind hg (Calls.loadGlobal_global (by rw [I.ok.glob]; exact I.mod.glob.keeps I.bk) hm h) hd
theorem ld_blt {E : Value → Shared → Prop} {pins : List (Addr × Obj)} {s : Shared} {σ : St} {H : Hp} {x : Str} {u : Value} {pos : Pos} {Q : Value → Shared → Prop} (I : Inv X pins σ H s) (hg : Gl X x) (hm : X.mg x = none) (hv : bootBuiltins x = some u) (h : Q u s)
    (hn : x ≠ "__name__" := by decide) (hd : (x == ("__debug__" : Str)) = false := by decide) : wpAny (model X.prog X.w) X.A (eval (.Name x pos) X.env) Q E s := by
  obtain ⟨mb, h1, h2⟩ := I.mod.blt
  exact Calls.Name_function_global I.ok.kind hg (Calls.loadGlobal_builtin (by rw [I.ok.glob]; exact I.mod.glob.keeps I.bk) hm (by rw [I.ok.blt]; exact h1.keeps I.bk) ((h2 x hn).trans hv) h) hd
/-- a module's constant, a class, a function, as a value -/
theorem pe_glob {x : Str} {v : V} {u : Value} {pos : Pos} (hg : Gl X x) (hm : X.mg x = some u) (r : RelV v u) (hd : (x == ("__debug__" : Str)) = false := by decide) : PE X (.Name x pos) (tC v) :=
  fun _ _ _ H _ I h => ld_glob I hg hm ⟨v, H, I, r, h⟩ hd
theorem pe_bltn {x : Str} {v : V} {u : Value} {pos : Pos} (hg : Gl X x) (hm : X.mg x = none) (hv : bootBuiltins x = some u) (r : RelV v u) (hn : x ≠ "__name__" := by decide) (hd : (x == ("__debug__" : Str)) = false := by decide) : PE X (.Name x pos) (tC v) :=
  fun _ _ _ H _ I h => ld_blt I hg hm hv ⟨v, H, I, r, h⟩ hn hd

/-! ### arithmetic -/
variable {a b : Expr} {ta tb : TE} {pos : Pos}

/-! ### comparisons -/
def PC (X : Cx) (op : CmpOp) (a b : Expr) (t : TE) : Prop :=
  ∀ (pins : List (Addr × Obj)) (s : Shared) (σ : St) (H : Hp) (Q : VK), Inv X pins σ H s → t σ H Q →
    wpAny (model X.prog X.w) X.A (eval a X.env) (fun v s₁ => wpAny (model X.prog X.w) X.A (eval b X.env) (fun u s₂ => wpAny (model X.prog X.w) X.A (compareOp op v u) (EP X pins σ Q) X.xe s₂) X.xe s₁) X.xe s
theorem nobehind (b : Expr) {op : CmpOp} (h : op ≠ .In) (h2 : op ≠ .NotIn) : behindInMarks op b = false := by
  have e1 : (op == CmpOp.In) = false := by cases op <;> first | rfl | exact absurd rfl h
  have e2 : (op == CmpOp.NotIn) = false := by cases op <;> first | rfl | exact absurd rfl h2
  cases b <;> simp [behindInMarks, e1, e2]
/-- is None -/
def tIsN (ta : TE) : TE := fun σ H Q => ta σ H fun x H1 => Q (.bl (decide (x = .non))) H1
def tNotN (ta : TE) : TE := fun σ H Q => ta σ H fun x H1 => Q (.bl (!decide (x = .non))) H1
theorem RelV.none_iff {x : V} {v : Value} (r : RelV x v) : (v == Value.none) = decide (x = .non) := by
  cases x with
  | non => cases r; rfl
  | bl _ => cases r; rfl
  | int _ => obtain ⟨t, rfl⟩ := r; rfl
  | str _ => obtain ⟨t, rfl⟩ := r; rfl
  | byt _ => obtain ⟨t, rfl⟩ := r; rfl
  | flt _ => obtain ⟨t, rfl⟩ := r; rfl
  | ref _ => cases r; rfl
  | ty _ => cases r; rfl
theorem pc_isN {j pos'} (ha : PE X a ta) : PC X .Is a (.Constant .none j pos') (tIsN ta) := by
  intro pins s σ H Q I h
  refine thn (ha pins s σ H _ I h) fun v s1 ⟨x, H1, I1, r1, q1⟩ => ?_
  exact Constant_none (is_none_gen ⟨.bl _, H1, I1, by rw [r1.none_iff]; rfl, q1⟩)
theorem pc_notN {j pos'} (ha : PE X a ta) : PC X .IsNot a (.Constant .none j pos') (tNotN ta) := by
  intro pins s σ H Q I h
  refine thn (ha pins s σ H _ I h) fun v s1 ⟨x, H1, I1, r1, q1⟩ => ?_
  exact Constant_none (isnot_none_gen ⟨.bl _, H1, I1, by rw [r1.none_iff]; rfl, q1⟩)
/-- a comparison as a value, as a test -/
def tB (t : TE) : TT := fun σ H Q => t σ H fun x H1 => ∃ c, x = .bl c ∧ Q c H1
theorem pe_cmp {op : CmpOp} {t : TE} (h : PC X op a b t) (h1 : behindInMarks op b = false := by first | exact nobehind _ (by decide) (by decide) | rfl) : PE X (.Compare a [op] [b] pos) t := fun pins s σ H Q I hw => wpAny_Compare1 (h pins s σ H Q I hw) h1
theorem pt_cmp {op : CmpOp} {t : TE} (h : PC X op a b t) (h1 : behindInMarks op b = false := by first | exact nobehind _ (by decide) (by decide) | rfl) : PT X (.Compare a [op] [b] pos) (tB t) := by
  intro pins s σ H Q I hw
  refine wpAny_isTrue_Compare1 (thn (h pins s σ H _ I hw) fun v s1 h1 => thn h1 fun u s2 h2 => thn h2 fun c s3 ⟨x, H1, I1, r1, q1⟩ => ?_) h1
  obtain ⟨d, rfl, q⟩ := q1
  cases r1
  exact wpAny_truthy_bool ⟨H1, I1, q⟩
/-- an expression whose value is a bool, as a test -/
theorem pt_val {e : Expr} {t : TE} (h : PE X e t) (he : ∀ whole, isTrue e X.env whole = (do let v ← whole; standAt e.pos; holding [v] (truthy v)) := by intro _; rfl) : PT X e (tB t) := by
  intro pins s σ H Q I hw
  refine isTrue_plain (thn (h pins s σ H _ I hw) fun v s1 ⟨x, H1, I1, r1, q1⟩ => ?_) (he _)
  obtain ⟨d, rfl, q⟩ := q1
  cases r1
  exact wpAny_truthy_bool ⟨H1, I1, q⟩

/-! ### and, or, not -/
variable {tA tB' : TT} {rest : List Expr}
def tAnd (t u : TT) : TT := fun σ H Q => t σ H fun c H1 => if c = true then u σ H1 Q else Q false H1
def tOr (t u : TT) : TT := fun σ H Q => t σ H fun c H1 => if c = true then Q true H1 else u σ H1 Q
def tNot (t : TT) : TT := fun σ H Q => t σ H fun c H1 => Q (!c) H1
theorem pw_and1 (ha : PT X a tA) : PW X (.BoolOp .And [a] pos) tA := by
  intro wh pins s σ H Q I h
  refine isTrue_and (thn (ha pins s σ H Q I h) fun c s1 e => ?_)
  cases c with
  | true => exact isTrue_and_nil e
  | false => exact e
theorem pw_or1 (ha : PT X a tA) : PW X (.BoolOp .Or [a] pos) tA := by
  intro wh pins s σ H Q I h
  refine isTrue_or (thn (ha pins s σ H Q I h) fun c s1 e => ?_)
  cases c with
  | false => exact isTrue_or_nil e
  | true => exact e
theorem pw_and (ha : PT X a tA) (hb : PW X (.BoolOp .And (b :: rest) pos) tB') : PW X (.BoolOp .And (a :: b :: rest) pos) (tAnd tA tB') := by
  intro wh pins s σ H Q I h
  refine isTrue_and (thn (ha pins s σ H _ I h) fun c s1 ⟨H1, I1, q1⟩ => ?_)
  cases c with
  | true => exact hb wh pins s1 σ H1 Q I1 q1
  | false => exact ⟨H1, I1, q1⟩
theorem pw_or (ha : PT X a tA) (hb : PW X (.BoolOp .Or (b :: rest) pos) tB') : PW X (.BoolOp .Or (a :: b :: rest) pos) (tOr tA tB') := by
  intro wh pins s σ H Q I h
  refine isTrue_or (thn (ha pins s σ H _ I h) fun c s1 ⟨H1, I1, q1⟩ => ?_)
  cases c with
  | true => exact ⟨H1, I1, q1⟩
  | false => exact hb wh pins s1 σ H1 Q I1 q1
theorem pt_not (ha : PT X a tA) : PT X (.UnaryOp .Not a pos) (tNot tA) := by
  intro pins s σ H Q I h
  exact isTrue_not (ha pins s σ H (fun c H1 => Q (!c) H1) I h)
/-- .. as values (bools) -/
def tAndV (ta tb : TE) : TE := fun σ H Q => ta σ H fun x H1 => ∃ c, x = .bl c ∧ if c = true then tb σ H1 Q else Q (.bl false) H1
def tOrV (ta tb : TE) : TE := fun σ H Q => ta σ H fun x H1 => ∃ c, x = .bl c ∧ if c = true then Q (.bl true) H1 else tb σ H1 Q
def tNotV (ta : TE) : TE := fun σ H Q => ta σ H fun x H1 => ∃ c, x = .bl c ∧ Q (.bl (!c)) H1
theorem pe_one {op} {t : TE} (h : PE X a t) : PE X (.BoolOp op [a] pos) t := fun pins s σ H Q I hw => BoolOp_one (h pins s σ H Q I hw)
theorem pe_and (ha : PE X a ta) (hb : PE X (.BoolOp .And (b :: rest) pos) tb) : PE X (.BoolOp .And (a :: b :: rest) pos) (tAndV ta tb) := by
  intro pins s σ H Q I h
  refine BoolOp_and (thn (ha pins s σ H _ I h) fun v s1 ⟨x, H1, I1, r1, q1⟩ => ?_)
  obtain ⟨c, rfl, q1⟩ := q1
  cases r1
  refine wpAny_truthy_bool ?_
  cases c with
  | true => exact hb pins s1 σ H1 Q I1 q1
  | false => exact ⟨.bl false, H1, I1, rfl, q1⟩
theorem pe_or (ha : PE X a ta) (hb : PE X (.BoolOp .Or (b :: rest) pos) tb) : PE X (.BoolOp .Or (a :: b :: rest) pos) (tOrV ta tb) := by
  intro pins s σ H Q I h
  refine BoolOp_or (thn (ha pins s σ H _ I h) fun v s1 ⟨x, H1, I1, r1, q1⟩ => ?_)
  obtain ⟨c, rfl, q1⟩ := q1
  cases r1
  refine wpAny_truthy_bool ?_
  cases c with
  | false => exact hb pins s1 σ H1 Q I1 q1
  | true => exact ⟨.bl true, H1, I1, rfl, q1⟩
theorem pe_not (ha : PE X a ta) : PE X (.UnaryOp .Not a pos) (tNotV ta) := by
  intro pins s σ H Q I h
  refine UnaryOp_ (thn (ha pins s σ H _ I h) fun v s1 ⟨x, H1, I1, r1, q1⟩ => ?_)
  obtain ⟨c, rfl, q1⟩ := q1
  cases r1
  exact not_of (wpAny_truthy_bool ⟨.bl (!c), H1, I1, rfl, q1⟩)
end
end L2

namespace L2
open PySem PySem.Spec PyProof.Rows

/-! ### a list, a tuple that is read: tracked, frozen, or an object of the module -/
def SqL (K : PySem.W.Frag) (H : Hp) (a : Addr) (xs : List V) : Prop :=
  Rd H a (.lst xs) ∨
    ∃ (o : Obj) (its : Array Value) (n : Nat), K.lookup a = some o ∧ o.cls = .type "list" ∧ o.dict = none ∧ o.data = .seq its n ∧ its.size ≤ sizeLine ∧ Vals xs its.toList
def SqT (K : PySem.W.Frag) (H : Hp) (a : Addr) (xs : List V) : Prop :=
  Rd H a (.tup xs) ∨
    ∃ (o : Obj) (its : Array Value) (n : Nat), K.lookup a = some o ∧ o.cls = .type "tuple" ∧ o.data = .seq its n ∧ its.size ≤ sizeLine ∧ Vals xs its.toList
def absV : Value → Option V
  | .none => some .non
  | .bool b => some (.bl b)
  | .int i _ => some (.int i)
  | .str x _ => some (.str x)
  | .bytes b _ => some (.byt b)
  | .float b _ => some (.flt b)
  | .ref a => some (.ref a)
  | .type n => some (.ty n)
  | _ => none
theorem RelV.abs {x : V} {u : Value} (r : RelV x u) : absV u = some x := by
  cases x with
  | non => cases r; rfl
  | bl _ => cases r; rfl
  | int _ => obtain ⟨t, rfl⟩ := r; rfl
  | str _ => obtain ⟨t, rfl⟩ := r; rfl
  | byt _ => obtain ⟨t, rfl⟩ := r; rfl
  | flt _ => obtain ⟨t, rfl⟩ := r; rfl
  | ref _ => cases r; rfl
  | ty _ => cases r; rfl
theorem RelV.inj {x y : V} {u : Value} (r : RelV x u) (q : RelV y u) : x = y := Option.some.inj (r.abs.symm.trans q.abs)
theorem Vals.inj : ∀ {xs ys : List V} {us : List Value}, Vals xs us → Vals ys us → xs = ys
  | _, _, _, .nil, .nil => rfl
  | _, _, _, .cons r t, .cons r' t' => by rw [r.inj r', Vals.inj t t']
section
variable {X : Cx} {pins : List (Addr × Obj)} {σ : St} {H : Hp} {s : Shared} {a : Addr} {xs ys : List V}
theorem SqL.of {K : PySem.W.Frag} (h : H a = some (.lst xs)) : SqL K H a xs := .inl (.inl h)
theorem SqT.of {K : PySem.W.Frag} (h : H a = some (.tup xs)) : SqT K H a xs := .inl (.inl h)
theorem Inv.list (I : Inv X pins σ H s) (h : SqL X.K H a xs) : ∃ its : List Value, Vals xs its ∧ PlainL s.heap a its.toArray ∧ xs.length ≤ sizeLine := by
  rcases h with h | ⟨o, its, n, hk, hc, hd, hs, hz, r⟩
  · obtain ⟨z, its, n, r, e⟩ := h.ok I.hok
    exact ⟨its, r, ⟨_, n, e, rfl, rfl, rfl⟩, z⟩
  · refine ⟨its.toList, r, ⟨o, n, I.kIn a o hk, hc, hd, by simpa using hs⟩, ?_⟩
    have e := r.length
    simp only [Array.length_toList] at e
    omega
theorem Inv.tuple (I : Inv X pins σ H s) (h : SqT X.K H a xs) : ∃ its : List Value, Vals xs its ∧ IsTup s.heap a its.toArray ∧ xs.length ≤ sizeLine := by
  rcases h with h | ⟨o, its, n, hk, hc, hs, hz, r⟩
  · obtain ⟨z, its, r, p⟩ := h.ok I.hok
    exact ⟨its, r, p, z⟩
  · refine ⟨its.toList, r, ⟨o, I.kIn a o hk, hc, n, by simpa using hs⟩, ?_⟩
    have e := r.length
    simp only [Array.length_toList] at e
    omega
theorem Inv.list_inj (I : Inv X pins σ H s) (h : SqL X.K H a xs) (h' : SqL X.K H a ys) : xs = ys := by
  obtain ⟨its, r, ⟨o, n, e, _, _, d⟩, _⟩ := I.list h
  obtain ⟨its', r', ⟨o', n', e', _, _, d'⟩, _⟩ := I.list h'
  rw [e] at e'; cases e'
  rw [d] at d'
  injection d' with d1 _
  have : its = its' := by simpa using congrArg Array.toList d1
  subst this
  exact r.inj r'
theorem Inv.tuple_inj (I : Inv X pins σ H s) (h : SqT X.K H a xs) (h' : SqT X.K H a ys) : xs = ys := by
  obtain ⟨its, r, ⟨o, e, _, n, d⟩, _⟩ := I.tuple h
  obtain ⟨its', r', ⟨o', e', _, n', d'⟩, _⟩ := I.tuple h'
  rw [e] at e'; cases e'
  rw [d] at d'
  injection d' with d1 _
  have : its = its' := by simpa using congrArg Array.toList d1
  subst this
  exact r.inj r'
end

/-! ### another wish about exceptions -/
abbrev Cx.wish (X : Cx) (E : Value → Shared → Prop) : Cx := { X with xe := E }
/-- no exception leaves -/
abbrev Cx.nox (X : Cx) : Cx := X.wish fun _ _ => False
theorem Cx.Ok.wish {X : Cx} (ok : X.Ok) (E : Value → Shared → Prop) : (X.wish E).Ok :=
  ⟨ok.mod, ok.kind, ok.glob, ok.blt, ok.above, ok.inj, ok.has, ok.cab, ok.hd, ok.frames, ok.stk, ok.exf, ok.bs, ok.bsz, ok.noex, ok.exfs, ok.funs, ok.frf⟩
theorem Cx.Ok.unwish {X : Cx} {E : Value → Shared → Prop} (ok : (X.wish E).Ok) : X.Ok :=
  ⟨ok.mod, ok.kind, ok.glob, ok.blt, ok.above, ok.inj, ok.has, ok.cab, ok.hd, ok.frames, ok.stk, ok.exf, ok.bs, ok.bsz, ok.noex, ok.exfs, ok.funs, ok.frf⟩
section
variable {X : Cx} {pins : List (Addr × Obj)} {σ : St} {H : Hp} {s : Shared} {E : Value → Shared → Prop}
theorem Inv.wish (I : Inv X pins σ H s) (E : Value → Shared → Prop) : Inv (X.wish E) pins σ H s := ⟨I.ok.wish E, I.os, I.bare, I.base, I.loc, I.cell, I.free, I.freeC, I.pin, I.hok, I.len⟩
theorem Inv.unwish (I : Inv (X.wish E) pins σ H s) : Inv X pins σ H s := ⟨I.ok.unwish, I.os, I.bare, I.base, I.loc, I.cell, I.free, I.freeC, I.pin, I.hok, I.len⟩
theorem SP.unwish {D : Ends} {f : Flow} {s' : Shared} (h : SP (X.wish E) pins D f s') : SP X pins D f s' := by
  cases f with
  | next => obtain ⟨σ', H', I, q⟩ := h; exact ⟨σ', H', I.unwish, q⟩
  | brk => obtain ⟨σ', H', I, q⟩ := h; exact ⟨σ', H', I.unwish, q⟩
  | cont => obtain ⟨σ', H', I, q⟩ := h; exact ⟨σ', H', I.unwish, q⟩
  | ret u => obtain ⟨v, σ', H', I, r, q⟩ := h; exact ⟨v, σ', H', I.unwish, r, q⟩
theorem PSs.nox {st : List Stmt} {t : TS} (h : PSs X.nox st t) : PSs X st t := fun pins s σ H D I hw =>
  wpAny_mono (h pins s σ H D (I.wish _) hw) (fun _ _ q => q.unwish) fun _ _ z => False.elim z
end

/-! ### blocks and small statements -/
section
variable {X : Cx} {st : Stmt} {rest : List Stmt} {t u : TS} {e : Expr} {te : TE} {pos : Pos}
def tNext : TS := fun D σ H => D.nx σ H
def tSeq (t u : TS) : TS := fun D σ H => t { D with nx := u D } σ H
theorem pss_nil : PSs X [] tNext := fun _ _ σ H _ I h => wpAny_execs_nil ⟨σ, H, I, h⟩
theorem pss_cons (h1 : PS X st t) (h2 : PSs X rest u) : PSs X (st :: rest) (tSeq t u) := by
  intro pins s σ H D I h
  refine wpAny_execs_cons (thn (h1 pins s σ H { D with nx := u D } I h) fun f s1 q => ?_)
  cases f with
  | next =>
    obtain ⟨σ', H', I', q⟩ := q
    exact h2 pins s1 σ' H' D I' q
  | ret v => exact q
  | brk => exact q
  | cont => exact q
theorem pss_one (h1 : PS X st t) : PSs X [st] t := by
  intro pins s σ H D I h
  refine wpAny_execs_cons (thn (h1 pins s σ H D I h) fun f s1 q => ?_)
  cases f with
  | next => exact wpAny_execs_nil q
  | ret v => exact q
  | brk => exact q
  | cont => exact q
def tBreak : TS := fun D σ H => D.bk σ H
theorem ps_break : PS X (.Break pos) tBreak := fun _ _ σ H _ I h => wpAny_Break ⟨σ, H, I, h⟩
/-- in a def's body nothing is shown -/
theorem Inv.quiet {pins : List (Addr × Obj)} {σ : St} {H : Hp} {s : Shared} (I : Inv X pins σ H s) : interactive X.env = false := by simp [interactive, I.ok.kind]
/-- an expression whose value is dropped -/
def tDrop (te : TE) : TS := fun D σ H => te σ H fun _ H1 => D.nx σ H1
theorem ps_expr (he : PE X e te) (hs : swapsWith e none pos.line X.env = pure false := by rfl) : PS X (.Expr e pos) (tDrop te) := by
  intro pins s σ H D I h
  exact wpAny_Expr_any (thn (he pins s σ H _ I h) fun v s1 ⟨x, H1, I1, r1, q1⟩ => ⟨σ, H1, I1, q1⟩) I.quiet hs
def tRet (te : TE) : TS := fun D σ H => te σ H D.rt
theorem ps_ret (he : PE X e te) : PS X (.Return (some e) pos) (tRet te) := by
  intro pins s σ H D I h
  exact wpAny_Return_some (thn (he pins s σ H _ I h) fun v s1 ⟨x, H1, I1, r1, q1⟩ => ⟨x, σ, H1, I1, r1, q1⟩)
def tIfS (c : TT) (t u : TS) : TS := fun D σ H => c σ H fun b H1 => if b = true then t D σ H1 else u D σ H1
theorem ps_if {c : Expr} {a b : List Stmt} {tc : TT} (hc : PT X c tc) (ha : PSs X a t) (hb : PSs X b u) : PS X (.If c a b pos) (tIfS tc t u) := by
  intro pins s σ H D I h
  refine wpAny_If (thn (hc pins s σ H _ I h) fun d s1 ⟨H1, I1, q1⟩ => ?_)
  cases d with
  | true => exact ha pins s1 σ H1 D I1 q1
  | false => exact hb pins s1 σ H1 D I1 q1
end

/-! ### targets -/
abbrev TG := V → St → Hp → (St → Hp → Prop) → Prop
abbrev TGs := List V → St → Hp → (St → Hp → Prop) → Prop
def PG (X : Cx) (target : Expr) (t : TG) : Prop :=
  ∀ (pins : List (Addr × Obj)) (s : Shared) (σ : St) (H : Hp) (v : V) (u : Value) (Q : St → Hp → Prop), Inv X pins σ H s → RelV v u → t v σ H Q →
    wpAny (model X.prog X.w) X.A (assign target X.env u) (fun _ s' => ∃ σ' H', Inv X pins σ' H' s' ∧ Q σ' H') X.xe s
/-- several targets, one after another -/
def PGs (X : Cx) (ts : List Expr) (t : TGs) : Prop :=
  ∀ (pins : List (Addr × Obj)) (s : Shared) (σ : St) (H : Hp) (vs : List V) (us : List Value) (Q : St → Hp → Prop), Inv X pins σ H s → Vals vs us → t vs σ H Q →
    wpAny (model X.prog X.w) X.A (assignInOrder ((assignEach ts X.env).map (·.2)) us) (fun _ s' => ∃ σ' H', Inv X pins σ' H' s' ∧ Q σ' H') X.xe s
/-- o[i] = v, by values -/
abbrev TSet := V → V → V → Hp → (Hp → Prop) → Prop
def PSet (X : Cx) (t : TSet) : Prop :=
  ∀ (pins : List (Addr × Obj)) (s : Shared) (σ : St) (H : Hp) (o i v : V) (ov iv u : Value) (Q : Hp → Prop), Inv X pins σ H s → RelV o ov → RelV i iv → RelV v u → t o i v H Q →
    wpAny (model X.prog X.w) X.A (setItem ov iv u) (fun _ s' => ∃ H', Inv X pins σ H' s' ∧ Q H') X.xe s
section
variable {X : Cx} {pos : Pos}
def gName (i : Nat) : TG := fun v σ H Q => Q (σ.set i (some v)) H
theorem pg_name {i : Nat} {x : Str} (hN : X.N.Nodup) (hi : X.N[i]? = some x) (hx : Loc X.env.scope x) (hf : X.fn x = true ∨ X.env.scope.names.lookup x = some .local := by first | exact .inl rfl | exact .inr rfl | assumption) : PG X (.Name x pos) (gName i) := by
  intro pins s σ H v u Q I r h
  exact wpAny_assign_Name (store_ok I hN hi hx r (fun s' I' => ⟨_, H, I', h⟩) hf)
def gNil : TGs := fun vs σ H Q => vs = [] ∧ Q σ H
def gCons (t : TG) (u : TGs) : TGs := fun vs σ H Q => ∃ v r, vs = v :: r ∧ t v σ H fun σ' H' => u r σ' H' Q
theorem pgs_nil : PGs X [] gNil := by
  intro pins s σ H vs us Q I r h
  obtain ⟨e, h⟩ := h
  subst e
  cases r
  exact assignInOrder_nil ⟨σ, H, I, h⟩
theorem pgs_cons {e : Expr} {es : List Expr} {t : TG} {u : TGs} (h1 : PG X e t) (h2 : PGs X es u)
    (hs : (assignEach (e :: es) X.env).map (·.2) = assign e X.env :: (assignEach es X.env).map (·.2) := by rfl) : PGs X (e :: es) (gCons t u) := by
  intro pins s σ H vs us Q I r h
  obtain ⟨v, vr, e1, h⟩ := h
  subst e1
  cases r with
  | cons r rr =>
    rw [hs]
    refine assignInOrder_cons (thn (h1 pins s σ H _ _ _ I r h) fun _ s1 ⟨σ1, H1, I1, q1⟩ => ?_)
    exact h2 pins s1 σ1 H1 _ _ Q I1 rr q1
/-- (a, b, ..) = a tuple of that length -/
def gTup (K : PySem.W.Frag) (n : Nat) (t : TGs) : TG := fun v σ H Q => ∃ a xs, v = .ref a ∧ SqT K H a xs ∧ xs.length = n ∧ t xs σ H Q
theorem pg_tup {es : List Expr} {k : Nat} {t : TGs} {n : Nat} (hc : X.calm = true) (h : PGs X es t)
    (hn : (assignEach es X.env).length = n := by rfl) (hst : (assignEach es X.env).findIdx? (·.1) = none := by rfl) : PG X (.Tuple es k pos) (gTup X.K n t) := by
  intro pins s σ H v u Q I r hw
  obtain ⟨a, xs, e1, hq, hl, hw⟩ := hw
  subst e1
  cases r
  obtain ⟨its, rv, ht, hz⟩ := I.tuple hq
  refine assign_Tuple_tuple (I.ok.hd hc) ht (by simp [hn, ← hl, rv.length]) hst fun h' hx => ?_
  have I1 : Inv X pins σ H { s with heap := h' } := I.kept (t' := s.toks) fun b o e => hx b o (Nat.ne_of_lt (Heap.lt_size e)) e
  exact h pins _ σ H xs _ Q I1 (by simpa using rv) hw
/-- o[i] = .. -/
def gSub (to ti : TE) (t : TSet) : TG := fun v σ H Q => to σ H fun o H1 => ti σ H1 fun i H2 => t o i v H2 fun H3 => Q σ H3
theorem pg_sub {o i : Expr} {to ti : TE} {t : TSet} (ho : PE X o to) (hi : PE X i ti) (hs : PSet X t)
    (ha : ∀ v, assign (.Subscript o i pos) X.env v = (do
      let ov ← holding [v] (eval o X.env)
      let iv ← holding [v, ov] (eval i X.env)
      standAt pos
      holding [v, ov, iv] (setItem ov iv v)
      release [v, ov, iv] []) := by intro _; rfl) : PG X (.Subscript o i pos) (gSub to ti t) := by
  intro pins s σ H v u Q I r h
  rw [ha]
  refine wpAny_bind (wpAny_holding (thn (ho pins s σ H _ I h) fun ov s1 ⟨x, H1, I1, r1, q1⟩ => ?_))
  refine wpAny_bind (wpAny_holding (thn (hi pins s1 σ H1 _ I1 q1) fun iv s2 ⟨y, H2, I2, r2, q2⟩ => ?_))
  refine wpAny_bind (wpAny_standAt (wpAny_bind (wpAny_holding (thn (hs pins s2 σ H2 x y v ov iv u _ I2 r1 r2 r q2) fun _ s3 ⟨H3, I3, q3⟩ => ?_))))
  exact wpAny_release ⟨σ, H3, I3, q3⟩
/-- target = value -/
def tAsg (te : TE) (g : TG) : TS := fun D σ H => te σ H fun x H1 => g x σ H1 D.nx
theorem ps_asg {tg e : Expr} {te : TE} {g : TG} (he : PE X e te) (hg : PG X tg g) (hs : swapsWithSole [tg] e pos.line X.env = pure false := by rfl) (hw : swappedStores [tg] e X.env = pure none := by rfl)
    (h1 : (assignEach [tg] X.env).map (·.2) = [assign tg X.env] := by rfl) : PS X (.Assign [tg] e pos) (tAsg te g) := by
  intro pins s σ H D I h
  refine wpAny_Assign_stores (thn (he pins s σ H _ I h) fun v s1 ⟨x, H1, I1, r1, q1⟩ => ?_) hs hw
  rw [h1]
  exact thn (hg pins s1 σ H1 x v _ I1 r1 q1) fun _ s2 q => q
/-- name = value -/
theorem ps_set {i : Nat} {x : Str} {e : Expr} {te : TE} {pos' : Pos} (hN : X.N.Nodup) (hi : X.N[i]? = some x) (hx : Loc X.env.scope x) (he : PE X e te) (hs : swapsWith e (some (.Name x pos')) pos.line X.env = pure false := by rfl) (hf : X.fn x = true ∨ X.env.scope.names.lookup x = some .local := by first | exact .inl rfl | exact .inr rfl | assumption) :
    PS X (.Assign [.Name x pos'] e pos) (tAsg te (gName i)) := by
  intro pins s σ H D I h
  refine wpAny_Assign_Name (thn (he pins s σ H _ I h) fun v s1 ⟨y, H1, I1, r1, q1⟩ => ?_) hs
  exact store_ok I1 hN hi hx r1 (fun s2 I2 => ⟨_, H1, I2, q1⟩) hf
end

/-! ### while -/
section
variable {X : Cx} {pos : Pos}
/-- the invariant W with its measure -/
def tWhile (c : TT) (tb : TS) : TS := fun D σ H => ∃ W : Nat → St → Hp → Prop, (∃ m, W m σ H) ∧ ∀ m σ H, W m σ H →
  c σ H fun b H1 => if b = true then ∃ N : St → Hp → Prop, (∀ σ' H', N σ' H' → ∃ m', m' < m ∧ W m' σ' H') ∧ tb { D with nx := N, ct := N, bk := D.nx } σ H1 else D.nx σ H1
theorem ps_while {c : Expr} {body : List Stmt} {tc : TT} {tb : TS} (hp : PassesOwn (model X.prog X.w) X.A X.env X.xe) (hc : PT X c tc) (hb : PSs X body tb) : PS X (.While c body [] pos) (tWhile tc tb) := by
  intro pins s σ H D I h
  obtain ⟨W, ⟨m0, w0⟩, turn⟩ := h
  refine wpAny_While (codeAny_whileLoop (fun n s' => ∃ σ' H', Inv X pins σ' H' s' ∧ W n σ' H') ?_ m0 ⟨σ, H, I, w0⟩)
  rintro n s1 ⟨σ1, H1, I1, w1⟩
  refine wpAny_passesOwn hp (thn (hc pins s1 σ1 H1 _ I1 (turn n σ1 H1 w1)) fun b s2 ⟨H2, I2, q2⟩ => ?_)
  cases b with
  | true =>
    obtain ⟨N, hN, q2⟩ := q2
    rw [if_pos rfl]
    refine wpAny_passesOwn hp (thn (hb pins s2 σ1 H2 _ I2 q2) fun f s3 q3 => ?_)
    cases f with
    | next =>
      obtain ⟨σ3, H3, I3, n3⟩ := q3
      obtain ⟨m', hm, w3⟩ := hN σ3 H3 n3
      exact ⟨m', hm, σ3, H3, I3, w3⟩
    | cont =>
      obtain ⟨σ3, H3, I3, n3⟩ := q3
      obtain ⟨m', hm, w3⟩ := hN σ3 H3 n3
      exact ⟨m', hm, σ3, H3, I3, w3⟩
    | brk => exact q3
    | ret v => exact q3
  | false =>
    rw [if_neg Bool.false_ne_true]
    exact wpAny_execs_nil ⟨σ1, H2, I2, q2⟩
end

/-! ### what a loop or a comprehension walks -/
/-- at turn i: it yields x (the heap may grow), or it stops -/
structure It where
  go : Nat → Hp → Prop
  yld : Nat → Hp → V → Hp → Prop
  stop : Nat → Hp → Prop
/-- the iterator's own objects may turn: they are not the frame's, not pinned, younger than the entry (or a comprehension's own) -/
def FpOk (X : Cx) (pins : List (Addr × Obj)) (H : Hp) (b : Addr) : Prop :=
  H b = none ∧ b ≠ X.env.locals ∧ b ∉ X.fs ∧ (b ∈ X.ex ∨ X.s₀.heap.objs.size ≤ b) ∧ (∀ x c, X.env.cells.lookup x = some c → c ≠ b) ∧ ∀ p ∈ X.pn ++ pins, p.1 ≠ b
theorem Inv.fpOk {X : Cx} {pins : List (Addr × Obj)} {σ : St} {H H' : Hp} {s : Shared} {b : Addr} (I : Inv X pins σ H s) (hb : s.heap.objs.size ≤ b) (hn : H' b = none) : FpOk X pins H' b := by
  refine ⟨hn, Nat.ne_of_gt (Nat.lt_of_lt_of_le I.lt hb), I.nofs hb, .inr (Nat.le_trans I.sz hb), fun x c e z => ?_, fun p hp z => ?_⟩
  · obtain ⟨v, q⟩ := I.cell x c e
    exact absurd (Nat.lt_of_lt_of_le q.lt (by rw [z]; exact hb)) (Nat.lt_irrefl _)
  · exact absurd (Nat.lt_of_lt_of_le (Heap.lt_size (I.pin p hp).1) (by rw [z]; exact hb)) (Nat.lt_irrefl _)
structure Turn (P : Program) (w : World) (K : PySem.W.Frag) (tg : Expr) (J : It) (fp : List Addr) (it : Addr) (tn : Nat → Heap → Prop) : Prop where
  mem : it ∈ fp
  obj : ∀ i h, tn i h → ∀ b ∈ fp, ∃ o, h.get? b = some o ∧ ∀ v, o.data ≠ .cell v
  keep : ∀ i h h', tn i h → (∀ b ∈ fp, ∀ o, h.get? b = some o → h'.get? b = some o) → tn i h'
  item : ∀ (X : Cx), X.prog = P → X.w = w → X.K = K → X.calm = true → ∀ (i : Nat) (pins : List (Addr × Obj)) (s : Shared) (σ : St) (H : Hp) (E : Value → Shared → Prop), Inv X pins σ H s → (∀ b ∈ fp, FpOk X pins H b) → tn i s.heap → J.go i H →
    wpAny (model P w) X.A (pyNext (.ref it)) (fun r s1 => ∃ u, r = some u ∧
      wpAny (model P w) X.A (letOwnedTupleGo tg (.ref it) u) (fun _ s2 => ∃ x H', Inv X pins σ H' s2 ∧ RelV x u ∧ J.yld i H x H' ∧ tn (i + 1) s2.heap ∧ ∀ b ∈ fp, H' b = none) E s1) E s
  done : ∀ (X : Cx), X.prog = P → X.w = w → X.K = K → X.calm = true → ∀ (i : Nat) (pins : List (Addr × Obj)) (s : Shared) (σ : St) (H : Hp) (E : Value → Shared → Prop), Inv X pins σ H s → (∀ b ∈ fp, FpOk X pins H b) → tn i s.heap → J.stop i H →
    wpAny (model P w) X.A (pyNext (.ref it)) (fun r s1 => r = none ∧ Inv X pins σ H s1) E s
  self : ∀ (A : Around) (i : Nat) (s : Shared) (Q : Value → Shared → Prop) (E : Value → Shared → Prop), tn i s.heap → Q (.ref it) s → wpAny (model P w) A (pyIter (.ref it)) Q E s
abbrev TI := St → Hp → (It → Hp → Prop) → Prop
/-- an iterator has come -/
def PIE (X : Cx) (pins : List (Addr × Obj)) (σ : St) (tg : Expr) (R : It → Hp → Prop) (itv : Value) (s2 : Shared) : Prop :=
  ∃ (it : Addr) (fp : List Addr) (tn : Nat → Heap → Prop) (J : It) (H' : Hp), itv = .ref it ∧ Inv X pins σ H' s2 ∧ Turn X.prog X.w X.K tg J fp it tn ∧ tn 0 s2.heap ∧ (∀ b ∈ fp, FpOk X pins H' b) ∧ R J H'
def PI (X : Cx) (tg iter : Expr) (wi : TI) : Prop :=
  ∀ (pins : List (Addr × Obj)) (s : Shared) (σ : St) (H : Hp) (R : It → Hp → Prop), Inv X pins σ H s → wi σ H R →
    wpAny (model X.prog X.w) X.A (eval iter X.env) (fun v s1 => wpAny (model X.prog X.w) X.A (pyIter v) (PIE X pins σ tg R) X.xe s1) X.xe s

/-- the step ahead of the store is nothing for an iterator that keeps no tuple -/
theorem go_of {M : Model} {A : Around} {E : Value → Shared → Prop} {s : Shared} {tg : Expr} {it : Addr} {u : Value} {o : Obj} {n : String} {vs : Array Value} {Q : Unit → Shared → Prop} (ho : s.heap.get? it = some o) (hc : o.cls = .type n) (hd : o.data = .fields vs)
    (hn : ["enumerate", "zip", "dict_itemiterator", "dict_reverseitemiterator", "odict_iterator", "itertools.zip_longest", "itertools.pairwise"].contains n = false) (hQ : Q () s) : wpAny M A (letOwnedTupleGo tg (.ref it) u) Q E s := by
  unfold letOwnedTupleGo
  cases tg <;> first
    | exact wpAny_pure hQ
    | (cases u <;> first
        | exact wpAny_pure hQ
        | (refine wpAny_bind (wpAny_load ho ?_)
           rw [hc, hd]
           show wpAny M A (if (["enumerate", "zip", "dict_itemiterator", "dict_reverseitemiterator", "odict_iterator", "itertools.zip_longest", "itertools.pairwise"].contains n && vs[0]? == some (rawInt _)) = true then _ else _) Q E s
           rw [if_neg (by intro h; rw [hn, Bool.false_and] at h; cases h)]
           exact wpAny_pure hQ))

/-- the list at a, as it stands at each turn (a loop may append to it) -/
def Itl (K : PySem.W.Frag) (a : Addr) : It :=
  ⟨fun i H => ∃ xs x, SqL K H a xs ∧ xs[i]? = some x, fun i H x H' => H' = H ∧ ∀ xs, SqL K H a xs → xs[i]? = some x, fun i H => ∃ xs, SqL K H a xs ∧ xs.length ≤ i⟩
def Itt (K : PySem.W.Frag) (a : Addr) : It :=
  ⟨fun i H => ∃ xs x, SqT K H a xs ∧ xs[i]? = some x, fun i H x H' => H' = H ∧ ∀ xs, SqT K H a xs → xs[i]? = some x, fun i H => ∃ xs, SqT K H a xs ∧ xs.length ≤ i⟩
/-- lo, lo + 1, .. (n of them) -/
def Itr (lo : Int) (n : Nat) : It := ⟨fun i _ => i < n, fun i H x H' => H' = H ∧ x = .int (lo + i), fun i _ => n ≤ i⟩
theorem turn_list {P : Program} {w : World} {K : PySem.W.Frag} {tg : Expr} (a it : Addr) : Turn P w K tg (Itl K a) [it] it (fun i h => h.IsListIter it a i) where
  mem := by simp
  obj := fun i h st b hb => by
    have e : b = it := by simpa using hb
    subst e
    obtain ⟨o, e, c, d⟩ := st
    exact ⟨o, e, fun v z => by rw [d] at z; cases z⟩
  keep := fun i h h' st k => st.at fun o e => k it (by simp) o e
  item := by
    intro X hP hw hK hc i pins s σ H E I hf st hg
    subst hP hw hK
    obtain ⟨xs, x, hq, hx⟩ := hg
    obtain ⟨its, rv, p, hz⟩ := I.list hq
    obtain ⟨u, hu, ru⟩ := rv.get hx
    obtain ⟨f0, f1, f2, f3, f4, f5⟩ := hf it (by simp)
    refine wpAny_pyNext_list_item st p.isList (x := u) (by simpa using hu) fun h' st' sb => ?_
    have I1 : Inv X pins σ H { s with heap := h' } := I.turned (t' := s.toks) (fun b o hb e => (sb.2 b hb).trans e) f0 f1 f3 f4 f5
    obtain ⟨o, e, c, d⟩ := id st'
    exact ⟨u, rfl, go_of (s := { s with heap := h' }) e c d (by decide) ⟨x, H, I1, ru, ⟨rfl, fun ys hy => by rw [I.list_inj hy hq]; exact hx⟩, st', fun b hb => (hf b hb).1⟩⟩
  done := by
    intro X hP hw hK hc i pins s σ H E I hf st hg
    subst hP hw hK
    obtain ⟨xs, hq, hx⟩ := hg
    obtain ⟨its, rv, p, hz⟩ := I.list hq
    obtain ⟨f0, f1, f2, f3, f4, f5⟩ := hf it (by simp)
    have hl := rv.length
    exact wpAny_pyNext_list_end (I.ok.hd hc) st p.isList (by simp; omega) fun h' eb => ⟨rfl, I.turned (t' := s.toks) (fun b o hb e => eb b o hb e) f0 f1 f3 f4 f5⟩
  self := fun _ _ _ _ _ st h => wpAny_pyIter_listiter st h
theorem turn_tuple {P : Program} {w : World} {K : PySem.W.Frag} {tg : Expr} (a it : Addr) : Turn P w K tg (Itt K a) [it] it (fun i h => h.IsTupleIter it a i) where
  mem := by simp
  obj := fun i h st b hb => by
    have e : b = it := by simpa using hb
    subst e
    obtain ⟨o, e, c, d⟩ := st
    exact ⟨o, e, fun v z => by rw [d] at z; cases z⟩
  keep := fun i h h' st k => st.at fun o e => k it (by simp) o e
  item := by
    intro X hP hw hK hc i pins s σ H E I hf st hg
    subst hP hw hK
    obtain ⟨xs, x, hq, hx⟩ := hg
    obtain ⟨its, rv, p, hz⟩ := I.tuple hq
    obtain ⟨u, hu, ru⟩ := rv.get hx
    obtain ⟨f0, f1, f2, f3, f4, f5⟩ := hf it (by simp)
    refine wpAny_pyNext_tuple_item st (show s.heap.IsTuple a its.toArray from p) (x := u) (by simpa using hu) fun h' st' sb => ?_
    have I1 : Inv X pins σ H { s with heap := h' } := I.turned (t' := s.toks) (fun b o hb e => (sb.2 b hb).trans e) f0 f1 f3 f4 f5
    obtain ⟨o, e, c, d⟩ := id st'
    exact ⟨u, rfl, go_of (s := { s with heap := h' }) e c d (by decide) ⟨x, H, I1, ru, ⟨rfl, fun ys hy => by rw [I.tuple_inj hy hq]; exact hx⟩, st', fun b hb => (hf b hb).1⟩⟩
  done := by
    intro X hP hw hK hc i pins s σ H E I hf st hg
    subst hP hw hK
    obtain ⟨xs, hq, hx⟩ := hg
    obtain ⟨its, rv, p, hz⟩ := I.tuple hq
    obtain ⟨f0, f1, f2, f3, f4, f5⟩ := hf it (by simp)
    have hl := rv.length
    exact wpAny_pyNext_tuple_end (I.ok.hd hc) st (show s.heap.IsTuple a its.toArray from p) (by simp; omega) fun h' eb => ⟨rfl, I.turned (t' := s.toks) (fun b o hb e => eb b o hb e) f0 f1 f3 f4 f5⟩
  self := fun _ _ _ _ _ st h => wpAny_pyIter_tupleiter st h
theorem turn_range {P : Program} {w : World} {K : PySem.W.Frag} {tg : Expr} (it : Addr) (lo : Int) (n : Nat) : Turn P w K tg (Itr lo n) [it] it (fun i h => IsRangeIter h it (lo + (i : Nat) * 1) ((n : Int) - (i : Nat)) 1) where
  mem := by simp
  obj := fun i h st b hb => by
    have e : b = it := by simpa using hb
    subst e
    exact ⟨_, st, fun v z => by
      have z' : Data.fields _ = Data.cell v := z
      cases z'⟩
  keep := fun i h h' st k => k it (by simp) _ st
  item := by
    intro X hP hw hK hc i pins s σ H E I hf st hg
    subst hP hw hK
    obtain ⟨f0, f1, f2, f3, f4, f5⟩ := hf it (by simp)
    have W := Walks.range (prog := X.prog) (w := X.w) (I.ok.hd hc) it lo 1 n
    refine W.item i s _ _ hg st fun v h' tk hv st' kk => ?_
    obtain ⟨t, rfl⟩ := hv
    have I1 : Inv X pins σ H { s with heap := h', toks := tk } := I.turned (fun b o hb e => kk b o (by simpa using hb) e) f0 f1 f3 f4 f5
    refine ⟨_, rfl, go_of (s := { s with heap := h', toks := tk }) (n := "range_iterator") st' rfl rfl (by decide) ⟨.int (lo + i), H, I1, ⟨t, ?_⟩, ⟨rfl, rfl⟩, st', fun b hb => (hf b hb).1⟩⟩
    rw [Int.mul_one]
  done := by
    intro X hP hw hK hc i pins s σ H E I hf st hg
    subst hP hw hK
    obtain ⟨f0, f1, f2, f3, f4, f5⟩ := hf it (by simp)
    exact wpAny_pyNext_range_end (I.ok.hd hc) st (by have : n ≤ i := hg; omega) fun h' eb => ⟨rfl, I.turned (t' := s.toks) (fun b o hb e => eb b o hb e) f0 f1 f3 f4 f5⟩
  self := fun _ _ _ _ _ st h => wpAny_pyIter_rangeiter st h
end L2

namespace L2
open PySem PySem.Spec PyProof.Rows
section
variable {X : Cx} {tg : Expr}
def iList (K : PySem.W.Frag) (tl : TE) : TI := fun σ H R => tl σ H fun x H1 => ∃ a, x = .ref a ∧ (∃ xs, SqL K H1 a xs) ∧ R (Itl K a) H1
def iTup (K : PySem.W.Frag) (tl : TE) : TI := fun σ H R => tl σ H fun x H1 => ∃ a, x = .ref a ∧ (∃ xs, SqT K H1 a xs) ∧ R (Itt K a) H1
theorem pi_list {l : Expr} {tl : TE} (hl : PE X l tl) : PI X tg l (iList X.K tl) := by
  intro pins s σ H R I h
  refine thn (hl pins s σ H _ I h) fun v s1 ⟨x, H1, I1, r1, q1⟩ => ?_
  obtain ⟨a, e, ⟨xs, hq⟩, q⟩ := q1
  subst e
  cases r1
  obtain ⟨its, rv, p, hz⟩ := I1.list hq
  refine wpAny_pyIter_list p.isList ?_
  refine ⟨s1.heap.objs.size, [s1.heap.objs.size], _, _, H1, rfl, I1.kept (t' := s1.toks) fun b o e => Heap.get?_push_of_some _ e, turn_list a _, ⟨_, Heap.get?_push_size _ rfl, rfl, rfl⟩, fun b hb => ?_, q⟩
  have e : b = s1.heap.objs.size := by simpa using hb
  subst e
  exact I1.fpOk (Nat.le_refl _) (I1.hok.fresh (Nat.le_refl _))
theorem pi_tup {l : Expr} {tl : TE} (hl : PE X l tl) : PI X tg l (iTup X.K tl) := by
  intro pins s σ H R I h
  refine thn (hl pins s σ H _ I h) fun v s1 ⟨x, H1, I1, r1, q1⟩ => ?_
  obtain ⟨a, e, ⟨xs, hq⟩, q⟩ := q1
  subst e
  cases r1
  obtain ⟨its, rv, p, hz⟩ := I1.tuple hq
  refine wpAny_pyIter_tuple (show s1.heap.IsTuple a its.toArray from p) ?_
  refine ⟨s1.heap.objs.size, [s1.heap.objs.size], _, _, H1, rfl, I1.kept (t' := s1.toks) fun b o e => Heap.get?_push_of_some _ e, turn_tuple a _, ⟨_, Heap.get?_push_size _ rfl, rfl, rfl⟩, fun b hb => ?_, q⟩
  have e : b = s1.heap.objs.size := by simpa using hb
  subst e
  exact I1.fpOk (Nat.le_refl _) (I1.hok.fresh (Nat.le_refl _))
/-- a range object just made, walked -/
theorem range_it {pins : List (Addr × Obj)} {σ : St} {H : Hp} {s : Shared} {R : It → Hp → Prop} {E : Value → Shared → Prop} {lo hi : Int} {t u v : Tok} {tk : Nat} (I : Inv X pins σ H s) (h1 : -(2 ^ 62) ≤ lo) (h2 : lo < 2 ^ 62) (h3 : -(2 ^ 62) ≤ hi) (h4 : hi < 2 ^ 62)
    (q : R (Itr lo (hi - lo).toNat) H) : wpAny (model X.prog X.w) X.A (pyIter (.ref s.heap.objs.size)) (PIE X pins σ tg R) E { s with heap := s.heap.push { cls := .type "range", data := .fields #[.int lo t, .int hi u, .int 1 v] }, toks := tk } := by
  refine wpAny_pyIter_range (IsRange.new ..) (small_one h1 h2 h3 h4) ?_
  have I1 : Inv X pins σ H { s with heap := s.heap.push { cls := .type "range", data := .fields #[.int lo t, .int hi u, .int 1 v] }, toks := tk } := I.kept fun b o e => Heap.get?_push_of_some _ e
  refine ⟨(s.heap.push { cls := .type "range", data := .fields #[.int lo t, .int hi u, .int 1 v] }).objs.size, [(s.heap.push { cls := .type "range", data := .fields #[.int lo t, .int hi u, .int 1 v] }).objs.size], _, _, H, rfl,
    I1.kept (t' := tk) fun b o e => Heap.get?_push_of_some _ e, turn_range _ lo (hi - lo).toNat, ?_, fun b hb => ?_, q⟩
  · have e1 : lo + ((0 : Nat) : Int) * 1 = lo := by simp
    have e2 : (((hi - lo).toNat : Nat) : Int) - ((0 : Nat) : Int) = Builtin.Range.rangeSize lo hi 1 := by rw [rangeSize_one]; split <;> omega
    show IsRangeIter _ _ (lo + ((0 : Nat) : Int) * 1) ((((hi - lo).toNat : Nat) : Int) - ((0 : Nat) : Int)) 1
    rw [e1, e2]
    exact Heap.get?_push_size _ rfl
  · have e : b = (s.heap.push { cls := .type "range", data := .fields #[.int lo t, .int hi u, .int 1 v] }).objs.size := by simpa using hb
    subst e
    exact I1.fpOk (Nat.le_refl _) (I1.hok.fresh (Nat.le_refl _))
def iRng1 (ta : TA) : TI := fun σ H R => ta σ H fun vs H1 => ∃ j : Int, vs = [.int j] ∧ -(2 ^ 62) ≤ j ∧ j < 2 ^ 62 ∧ R (Itr 0 j.toNat) H1
theorem pi_range1 {a : Expr} {ta : TA} {p pos : Pos} (hg : Gl X "range") (hm : X.mg "range" = none) (ha : PA X [a] ta) (hs : starEach [a] X.env = [(false, eval a X.env)] := by rfl) : PI X tg (.Call (.Name "range" p) [a] [] pos) (iRng1 ta) := by
  intro pins s σ H R I h
  refine Call_ (ld_blt I hg hm boot_range (PyProof.Rows.callWith_type1 (thn (ha pos pins s σ H _ I h) fun us s1 ⟨vs, H1, I1, r1, q1⟩ => ?_) hs rfl))
  obtain ⟨j, e, q1, q2, q⟩ := q1
  subst e
  cases r1 with
  | cons r rr =>
    cases rr
    obtain ⟨t, rfl⟩ := r
    exact call_range_1 (range_it I1 (by omega) (by omega) q1 q2 (by simpa using q))

/-! ### for -/
/-- W: the invariant by the turn and a measure; N: what the body is to reach -/
def tFor (wi : TI) (g : TG) (tb : TS) : TS := fun D σ H => wi σ H fun J H1 => ∃ W : Nat → Nat → St → Hp → Prop, (∃ m, W 0 m σ H1) ∧ ∀ i m σ H, W i m σ H →
  (J.stop i H ∧ D.nx σ H) ∨ (J.go i H ∧ ∃ N : St → Hp → Prop, (∀ σ' H', N σ' H' → ∃ m', m' < m ∧ W (i + 1) m' σ' H') ∧ ∀ x H', J.yld i H x H' → g x σ H' fun σ2 H2 => tb { D with nx := N, ct := N, bk := D.nx } σ2 H2)
/-- the records at fp as they stand -/
def pinsAt (fp : List Addr) (h : Heap) : List (Addr × Obj) := fp.filterMap fun b => (h.get? b).map fun o => (b, o)
theorem mem_pinsAt {fp : List Addr} {h : Heap} {b : Addr} {o : Obj} (hb : b ∈ fp) (e : h.get? b = some o) : (b, o) ∈ pinsAt fp h := List.mem_filterMap.mpr ⟨b, hb, by rw [e]; rfl⟩
theorem of_pinsAt {fp : List Addr} {h : Heap} {p : Addr × Obj} (hp : p ∈ pinsAt fp h) : p.1 ∈ fp ∧ h.get? p.1 = some p.2 := by
  obtain ⟨b, hb, e⟩ := List.mem_filterMap.mp hp
  cases q : h.get? b with
  | none => rw [q] at e; cases e
  | some o =>
    rw [q] at e
    have e' : (b, o) = p := Option.some.inj e
    subst e'
    exact ⟨hb, q⟩
theorem Inv.pinned {pins : List (Addr × Obj)} {σ : St} {H : Hp} {s : Shared} {fp : List Addr} (I : Inv X pins σ H s) (hf : ∀ b ∈ fp, FpOk X pins H b) (ho : ∀ b ∈ fp, ∃ o, s.heap.get? b = some o ∧ ∀ v, o.data ≠ .cell v) : Inv X (pins ++ pinsAt fp s.heap) σ H s :=
  I.pins_of fun p hp => (List.mem_append.mp hp).elim (fun z => I.pin p (List.mem_append_right _ z)) fun z => by
    obtain ⟨hb, e⟩ := of_pinsAt z
    obtain ⟨f0, f1, f2, _⟩ := hf p.1 hb
    obtain ⟨o, e', d⟩ := ho p.1 hb
    rw [e] at e'; cases e'
    exact ⟨e, f0, f1, f2, d⟩
theorem Inv.unpinned {pins pl : List (Addr × Obj)} {σ : St} {H : Hp} {s : Shared} (I : Inv X (pins ++ pl) σ H s) : Inv X pins σ H s := I.pins_of fun p hp => I.pin p (List.mem_append_right _ (List.mem_append_left _ hp))
theorem ps_for {iter : Expr} {body : List Stmt} {wi : TI} {g : TG} {tb : TS} {pos : Pos} (hp : PassesOwn (model X.prog X.w) X.A X.env X.xe) (hc : X.calm = true) (hi : PI X tg iter wi) (hg : PG X tg g) (hb : PSs X body tb)
    (hs : ∀ x, foldedSetIterable iter X.env x = pure x := by intro _; rfl) : PS X (.For tg iter body [] pos) (tFor wi g tb) := by
  intro pins s σ H D I h
  refine wpAny_For (thn (hi pins s σ H _ I h) fun v s1 h1 => thn h1 fun itv s2 h2 => ?_) hs
  obtain ⟨it, fp, tn, J, H2, e, I2, T, st2, f2, W, ⟨m0, w0⟩, turn⟩ := h2
  subst e
  -- what stays true of the iterator's objects through the loop
  have stat : ∀ {H' : Hp}, (∀ b ∈ fp, H' b = none) → ∀ b ∈ fp, FpOk X pins H' b := fun hn b hb => ⟨hn b hb, (f2 b hb).2⟩
  refine codeAny_forLoop_any (fun n s' => ∃ i σ' H', Inv X pins σ' H' s' ∧ tn i s'.heap ∧ (∀ b ∈ fp, H' b = none) ∧ W i n σ' H') ?_ m0 ⟨0, σ, H2, I2, st2, fun b hb => (f2 b hb).1, w0⟩
  rintro n s3 ⟨i, σ3, H3, I3, st3, fr3, w3⟩
  rcases turn i n σ3 H3 w3 with ⟨stop, qn⟩ | ⟨go, N, hN, step⟩
  · refine wpAny_passesOwn hp (thn (T.done X rfl rfl rfl hc i pins s3 σ3 H3 X.xe I3 (stat fr3) st3 stop) fun r s4 ⟨hr, I4⟩ => ?_)
    subst hr
    exact wpAny_execs_nil ⟨σ3, H3, I4, qn⟩
  · refine wpAny_passesOwn hp (thn (T.item X rfl rfl rfl hc i pins s3 σ3 H3 X.xe I3 (stat fr3) st3 go) fun r s4 ⟨u, hr, h4⟩ => ?_)
    subst hr
    refine wpAny_passesOwn hp (thn h4 fun _ s5 ⟨x, H5, I5, r5, y5, st5, fr5⟩ => ?_)
    have I5' := I5.pinned (stat fr5) (T.obj _ _ st5)
    refine wpAny_passesOwn hp (thn (hg _ s5 σ3 H5 x u _ I5' r5 (step x H5 y5)) fun _ s6 ⟨σ6, H6, I6, q6⟩ => ?_)
    refine wpAny_passesOwn hp (thn (hb _ s6 σ6 H6 _ I6 q6) fun f s7 q7 => ?_)
    have again : ∀ {σ7 : St} {H7 : Hp}, Inv X (pins ++ pinsAt fp s5.heap) σ7 H7 s7 → N σ7 H7 → ∃ m, m < n ∧ ∃ i σ' H', Inv X pins σ' H' s7 ∧ tn i s7.heap ∧ (∀ b ∈ fp, H' b = none) ∧ W i m σ' H' := fun {σ7 H7} I7 n7 => by
      obtain ⟨m', hm, w7⟩ := hN σ7 H7 n7
      refine ⟨m', hm, i + 1, σ7, H7, I7.unpinned, T.keep _ _ _ st5 fun b hb o e => (I7.pin (b, o) (List.mem_append_right _ (List.mem_append_right _ (mem_pinsAt hb e)))).1, fun b hb => ?_, w7⟩
      obtain ⟨o, e, d⟩ := T.obj _ _ st5 b hb
      exact (I7.pin (b, o) (List.mem_append_right _ (List.mem_append_right _ (mem_pinsAt hb e)))).2.1
    cases f with
    | next => obtain ⟨σ7, H7, I7, n7⟩ := q7; exact again I7 n7
    | cont => obtain ⟨σ7, H7, I7, n7⟩ := q7; exact again I7 n7
    | brk => obtain ⟨σ7, H7, I7, q7⟩ := q7; exact ⟨σ7, H7, I7.unpinned, q7⟩
    | ret v => obtain ⟨x7, σ7, H7, I7, r7, q7⟩ := q7; exact ⟨x7, σ7, H7, I7.unpinned, r7, q7⟩
end

/-! ### the forms one uses -/
theorem for_range {lo : Int} {n : Nat} {g : TG} {tb : TS} {D : Ends} {σ : St} {H : Hp} (Pv : Nat → St → Hp → Prop) (h0 : Pv 0 σ H)
    (hs : ∀ i σ H, i < n → Pv i σ H → g (.int (lo + i)) σ H fun σ2 H2 => tb { D with nx := Pv (i + 1), ct := Pv (i + 1), bk := D.nx } σ2 H2) (hd : ∀ σ H, Pv n σ H → D.nx σ H) :
    ∃ W : Nat → Nat → St → Hp → Prop, (∃ m, W 0 m σ H) ∧ ∀ i m σ H, W i m σ H →
      ((Itr lo n).stop i H ∧ D.nx σ H) ∨ ((Itr lo n).go i H ∧ ∃ N : St → Hp → Prop, (∀ σ' H', N σ' H' → ∃ m', m' < m ∧ W (i + 1) m' σ' H') ∧ ∀ x H', (Itr lo n).yld i H x H' → g x σ H' fun σ2 H2 => tb { D with nx := N, ct := N, bk := D.nx } σ2 H2) := by
  refine ⟨fun i m σ H => m = n - i ∧ i ≤ n ∧ Pv i σ H, ⟨n, by simp, Nat.zero_le _, h0⟩, ?_⟩
  rintro i m σ H ⟨rfl, hi, p⟩
  by_cases hlt : i < n
  · refine .inr ⟨hlt, Pv (i + 1), fun σ' H' p' => ⟨n - (i + 1), by omega, rfl, hlt, p'⟩, fun x H' y => ?_⟩
    obtain ⟨e, y⟩ := y
    subst e y
    exact hs i σ _ hlt p
  · have e : i = n := by omega
    subst e
    exact .inl ⟨Nat.le_refl _, hd σ H p⟩
/-- while, by a word and a measure of the state -/
theorem while_by {c : TT} {tb : TS} {D : Ends} {σ : St} {H : Hp} (Pv : St → Hp → Prop) (μ : St → Hp → Nat) (h0 : Pv σ H)
    (hs : ∀ σ H, Pv σ H → c σ H fun b H1 => if b = true then tb { D with nx := fun σ' H' => Pv σ' H' ∧ μ σ' H' < μ σ H, ct := fun σ' H' => Pv σ' H' ∧ μ σ' H' < μ σ H, bk := D.nx } σ H1 else D.nx σ H1)
    (mono : ∀ σ H Q Q', (∀ b H1, Q b H1 → Q' b H1) → c σ H Q → c σ H Q') : tWhile c tb D σ H := by
  refine ⟨fun m σ H => m = μ σ H ∧ Pv σ H, ⟨_, rfl, h0⟩, ?_⟩
  rintro m σ H ⟨rfl, p⟩
  refine mono σ H _ _ (fun b H1 q => ?_) (hs σ H p)
  cases b with
  | true => exact ⟨_, fun σ' H' ⟨p', l⟩ => ⟨_, l, rfl, p'⟩, q⟩
  | false => exact q
end L2

namespace L2
open PySem PySem.Spec PyProof.Rows

abbrev R2 := V → V → Hp → VK → Prop
/-- a two-place operation on values: f is binaryOp op, inplaceOp op or compareOp op -/
def OpR (X : Cx) (f : Value → Value → Sem Value) (r : R2) : Prop :=
  ∀ (pins : List (Addr × Obj)) (s : Shared) (σ : St) (H : Hp) (x y : V) (v u : Value) (Q : VK), Inv X pins σ H s → RelV x v → RelV y u → r x y H Q →
    wpAny (model X.prog X.w) X.A (f v u) (EP X pins σ Q) X.xe s
/-- a one-place operation -/
def UnR (X : Cx) (f : Value → Sem Value) (r : V → Hp → VK → Prop) : Prop :=
  ∀ (pins : List (Addr × Obj)) (s : Shared) (σ : St) (H : Hp) (x : V) (v : Value) (Q : VK), Inv X pins σ H s → RelV x v → r x H Q →
    wpAny (model X.prog X.w) X.A (f v) (EP X pins σ Q) X.xe s
/-- a call of a value that is known (a builtin, a type) with values -/
def CallR (X : Cx) (f : Value) (r : List V → Hp → VK → Prop) : Prop :=
  ∀ (pins : List (Addr × Obj)) (s : Shared) (σ : St) (H : Hp) (xs : List V) (us : List Value) (Q : VK), Inv X pins σ H s → Vals xs us → r xs H Q →
    wpAny (model X.prog X.w) X.A (call f us) (EP X pins σ Q) X.xe s
/-- a value's truth -/
def TruR (X : Cx) (r : V → Hp → (Bool → Hp → Prop) → Prop) : Prop :=
  ∀ (pins : List (Addr × Obj)) (s : Shared) (σ : St) (H : Hp) (x : V) (v : Value) (Q : Bool → Hp → Prop), Inv X pins σ H s → RelV x v → r x H Q →
    wpAny (model X.prog X.w) X.A (truthy v) (TP X pins σ Q) X.xe s

def tOp (r : R2) (ta tb : TE) : TE := fun σ H Q => ta σ H fun x H1 => tb σ H1 fun y H2 => r x y H2 Q
def tUn (r : V → Hp → VK → Prop) (ta : TE) : TE := fun σ H Q => ta σ H fun x H1 => r x H1 Q
/-- ints in, under C, and a value out -/
def rI (C : Int → Int → Prop) (g : Int → Int → V) : R2 := fun x y H Q => ∃ i j, x = .int i ∧ y = .int j ∧ C i j ∧ Q (g i j) H
def rI0 (g : Int → Int → V) : R2 := fun x y H Q => ∃ i j, x = .int i ∧ y = .int j ∧ Q (g i j) H
def rU (g : Int → V) : V → Hp → VK → Prop := fun x H Q => ∃ i, x = .int i ∧ Q (g i) H

section
variable {X : Cx} {a b c : Expr} {ta tb tc : TE} {pos : Pos}

theorem binT (ha : PE X a ta) (hb : PE X b tb) {pins : List (Addr × Obj)} {s : Shared} {σ : St} {H : Hp} {R : V → V → Hp → Prop} (I : Inv X pins σ H s)
    (h : ta σ H fun x H1 => tb σ H1 fun y H2 => R x y H2) {Q : Value → Shared → Prop} {f : Value → Value → Sem Value}
    (hf : ∀ v u s2 x y H2, Inv X pins σ H2 s2 → RelV x v → RelV y u → R x y H2 → wpAny (model X.prog X.w) X.A (f v u) Q X.xe s2) :
    wpAny (model X.prog X.w) X.A (eval a X.env) (fun v s₁ => wpAny (model X.prog X.w) X.A (eval b X.env) (fun u s₂ => wpAny (model X.prog X.w) X.A (f v u) Q X.xe s₂) X.xe s₁) X.xe s := by
  refine thn (ha pins s σ H _ I h) fun v s1 ⟨x, H1, I1, r1, q1⟩ => ?_
  refine thn (hb pins s1 σ H1 _ I1 q1) fun u s2 ⟨y, H2, I2, r2, q2⟩ => ?_
  exact hf v u s2 x y H2 I2 r1 r2 q2

theorem pe_op {op : Operator} {r : R2} (ho : OpR X (binaryOp op) r) (ha : PE X a ta) (hb : PE X b tb) : PE X (.BinOp a op b pos) (tOp r ta tb) := by
  intro pins s σ H Q I h
  exact wpAny_BinOp (binT ha hb I h fun v u s2 x y H2 I2 rx ry q => ho pins s2 σ H2 x y v u Q I2 rx ry q)
theorem pe_un {op : UnaryOp} {r : V → Hp → VK → Prop} (ho : UnR X (unaryOp op) r) (ha : PE X a ta) : PE X (.UnaryOp op a pos) (tUn r ta) := by
  intro pins s σ H Q I h
  exact UnaryOp_ (thn (ha pins s σ H _ I h) fun v s1 ⟨x, H1, I1, r1, q1⟩ => ho pins s1 σ H1 x v Q I1 r1 q1)

/-! ### ints -/
theorem opI {f : Value → Value → Sem Value} {C : Int → Int → Prop} {g : Int → Int → Int}
    (rule : ∀ (i j : Int) (t u : Tok) (s : Shared) (Q : Value → Shared → Prop) (E : Value → Shared → Prop), C i j → Q (.int (g i j) s.toks) { s with toks := s.toks + 1 } → wpAny (model X.prog X.w) X.A (f (.int i t) (.int j u)) Q E s) :
    OpR X f (rI C fun i j => .int (g i j)) := by
  intro pins s σ H x y v u Q I rx ry h
  obtain ⟨i, j, rfl, rfl, hc, q⟩ := h
  obtain ⟨t, rfl⟩ := rx
  obtain ⟨t', rfl⟩ := ry
  exact rule i j t t' s _ _ hc ⟨.int (g i j), H, I.tok _, ⟨_, rfl⟩, q⟩
theorem opI0 {f : Value → Value → Sem Value} {g : Int → Int → Int}
    (rule : ∀ (i j : Int) (t u : Tok) (s : Shared) (Q : Value → Shared → Prop) (E : Value → Shared → Prop), Q (.int (g i j) s.toks) { s with toks := s.toks + 1 } → wpAny (model X.prog X.w) X.A (f (.int i t) (.int j u)) Q E s) :
    OpR X f (rI0 fun i j => .int (g i j)) := by
  intro pins s σ H x y v u Q I rx ry h
  obtain ⟨i, j, rfl, rfl, q⟩ := h
  obtain ⟨t, rfl⟩ := rx
  obtain ⟨t', rfl⟩ := ry
  exact rule i j t t' s _ _ ⟨.int (g i j), H, I.tok _, ⟨_, rfl⟩, q⟩
theorem opB0 {f : Value → Value → Sem Value} {g : Int → Int → Bool}
    (rule : ∀ (i j : Int) (t u : Tok) (s : Shared) (Q : Value → Shared → Prop) (E : Value → Shared → Prop), Q (.bool (g i j)) s → wpAny (model X.prog X.w) X.A (f (.int i t) (.int j u)) Q E s) :
    OpR X f (rI0 fun i j => .bl (g i j)) := by
  intro pins s σ H x y v u Q I rx ry h
  obtain ⟨i, j, rfl, rfl, q⟩ := h
  obtain ⟨t, rfl⟩ := rx
  obtain ⟨t', rfl⟩ := ry
  exact rule i j t t' s _ _ ⟨.bl (g i j), H, I, rfl, q⟩

def CPow (i j : Int) : Prop := 0 ≤ j ∧ j ≤ 1000000 ∧ i.natAbs < 2 ^ 64
def CMul (i j : Int) : Prop := (-(2 ^ 64) < i ∧ i < 2 ^ 64) ∨ (-(2 ^ 64) < j ∧ j < 2 ^ 64)
theorem CMul.ok {i j : Int} (h : CMul i j) : IntMulOk i j := by
  rcases h with ⟨h1, h2⟩ | ⟨h1, h2⟩
  · exact .of_left (intBits_le_64 h1 h2)
  · exact .of_right (intBits_le_64 h1 h2)

theorem op_add : OpR X (binaryOp .Add) (rI0 fun i j => .int (i + j)) := opI0 fun _ _ _ _ _ _ _ q => add_int q
theorem op_sub : OpR X (binaryOp .Sub) (rI0 fun i j => .int (i - j)) := opI0 fun _ _ _ _ _ _ _ q => sub_int q
theorem op_mul : OpR X (binaryOp .Mult) (rI CMul fun i j => .int (i * j)) := opI fun _ _ _ _ _ _ _ hc q => mul_int q hc.ok
/-- % by a positive divisor of any size -/
theorem op_mod : OpR X (binaryOp .Mod) (rI (fun _ j => 0 < j) fun i j => .int (i % j)) := opI fun i j _ _ _ _ _ hc q => by
  have h1 : (0 : Int) < j := hc
  exact mod_int' (by omega) (by rw [Int.fmod_eq_emod_of_nonneg i (by omega)]; exact q)
theorem op_pow : OpR X (binaryOp .Pow) (rI CPow fun i j => .int (i ^ j.toNat)) := opI fun _ _ _ _ _ _ _ hc q => pow_int_small hc.1 hc.2.1 hc.2.2 q


theorem unI {f : Value → Sem Value} {g : Int → Int}
    (rule : ∀ (i : Int) (t : Tok) (s : Shared) (Q : Value → Shared → Prop) (E : Value → Shared → Prop), Q (.int (g i) s.toks) { s with toks := s.toks + 1 } → wpAny (model X.prog X.w) X.A (f (.int i t)) Q E s) :
    UnR X f (rU fun i => .int (g i)) := by
  intro pins s σ H x v Q I rx h
  obtain ⟨i, rfl, q⟩ := h
  obtain ⟨t, rfl⟩ := rx
  exact rule i t s _ _ ⟨.int (g i), H, I.tok _, ⟨_, rfl⟩, q⟩
theorem un_neg : UnR X (unaryOp .USub) (rU fun i => .int (-i)) := unI fun _ _ _ _ _ q => neg_int q

/-! ### bools among ints: n += (a < b) -/
end

/-! ### comparisons -/
/-- the scalars that == tells apart as data does -/
def scal : V → V → Bool
  | .non, .non => true | .non, .int _ => true | .int _, .non => true | .non, .bl _ => true | .bl _, .non => true | .non, .str _ => true | .str _, .non => true
  | .int _, .int _ => true | .bl _, .bl _ => true | .str _, .str _ => true | .byt _, .byt _ => true
  | .int _, .str _ => true | .str _, .int _ => true | .bl _, .str _ => true | .str _, .bl _ => true
  | _, _ => false
def rEq : R2 := fun x y H Q => scal x y = true ∧ Q (.bl (decide (x = y))) H
def rNe : R2 := fun x y H Q => scal x y = true ∧ Q (.bl (!decide (x = y))) H

theorem dec_int {i j : Int} : decide (V.int i = V.int j) = (i == j) := by
  rw [Bool.eq_iff_iff]
  simp
theorem dec_bl {i j : Bool} : decide (V.bl i = V.bl j) = (i == j) := by
  rw [Bool.eq_iff_iff]
  simp
theorem dec_str {i j : Str} : decide (V.str i = V.str j) = (i == j) := by
  rw [Bool.eq_iff_iff]
  simp
theorem dec_byt {i j : Array UInt8} : decide (V.byt i = V.byt j) = (i.toList == j.toList) := by
  rw [Bool.eq_iff_iff]
  cases i
  cases j
  simp

section
variable {X : Cx} {a b c : Expr} {ta tb tc : TE} {pos : Pos}
theorem fin_bl {pins : List (Addr × Obj)} {σ : St} {H : Hp} {s : Shared} {Q : VK} {k k' : Bool} (I : Inv X pins σ H s) (q : Q (.bl k) H) (e : k = k') : EP X pins σ Q (.bool k') s := by
  subst e
  exact ⟨.bl k, H, I, rfl, q⟩
theorem op_eq : OpR X (compareOp .Eq) rEq := by
  intro pins s σ H x y v u Q I rx ry h
  obtain ⟨hs, q⟩ := h
  cases x with
  | non =>
    cases rx
    cases y with
    | non => cases ry; exact PySem.EqNone.eq_none_none (fin_bl I q (by simp))
    | bl j => cases ry; exact PySem.EqNone.eq_none_bool (fin_bl I q (by simp))
    | int j => obtain ⟨t', rfl⟩ := ry; exact PySem.EqNone.eq_none_int (fin_bl I q (by simp))
    | str j => obtain ⟨t', rfl⟩ := ry; exact PySem.EqNone.eq_none_str (fin_bl I q (by simp))
    | _ => exact absurd (show false = true from hs) Bool.false_ne_true
  | bl i =>
    cases rx
    cases y with
    | non => cases ry; exact PySem.EqNone.eq_bool_none (fin_bl I q (by simp))
    | bl j => cases ry; exact eq_bool (fin_bl I q dec_bl)
    | str j => obtain ⟨t', rfl⟩ := ry; exact PySem.EqMixed.eq_bool_str (fin_bl I q (by simp))
    | _ => exact absurd (show false = true from hs) Bool.false_ne_true
  | int i =>
    obtain ⟨t, rfl⟩ := rx
    cases y with
    | non => cases ry; exact PySem.EqNone.eq_int_none (fin_bl I q (by simp))
    | int j => obtain ⟨t', rfl⟩ := ry; exact eq_int (fin_bl I q dec_int)
    | str j => obtain ⟨t', rfl⟩ := ry; exact PySem.EqMixed.eq_int_str (fin_bl I q (by simp))
    | _ => exact absurd (show false = true from hs) Bool.false_ne_true
  | str i =>
    obtain ⟨t, rfl⟩ := rx
    cases y with
    | non => cases ry; exact PySem.EqNone.eq_str_none (fin_bl I q (by simp))
    | bl j => cases ry; exact PySem.EqMixed.eq_str_bool (fin_bl I q (by simp))
    | int j => obtain ⟨t', rfl⟩ := ry; exact PySem.EqMixed.eq_str_int (fin_bl I q (by simp))
    | str j => obtain ⟨t', rfl⟩ := ry; exact eq_str (fin_bl I q dec_str)
    | _ => exact absurd (show false = true from hs) Bool.false_ne_true
  | byt i =>
    obtain ⟨t, rfl⟩ := rx
    cases y with
    | byt j => obtain ⟨t', rfl⟩ := ry; exact PySem.W.eq_bytes (fin_bl I q dec_byt)
    | _ => exact absurd (show false = true from hs) Bool.false_ne_true
  | _ => cases y <;> exact absurd (show false = true from hs) Bool.false_ne_true
theorem op_ne : OpR X (compareOp .NotEq) rNe := by
  intro pins s σ H x y v u Q I rx ry h
  obtain ⟨hs, q⟩ := h
  cases x with
  | non =>
    cases rx
    cases y with
    | non => cases ry; exact PySem.EqNone.ne_none_none (fin_bl I q (by simp))
    | bl j => cases ry; exact PySem.EqNone.ne_none_bool (fin_bl I q (by simp))
    | int j => obtain ⟨t', rfl⟩ := ry; exact PySem.EqNone.ne_none_int (fin_bl I q (by simp))
    | str j => obtain ⟨t', rfl⟩ := ry; exact PySem.EqNone.ne_none_str (fin_bl I q (by simp))
    | _ => exact absurd (show false = true from hs) Bool.false_ne_true
  | bl i =>
    cases rx
    cases y with
    | non => cases ry; exact PySem.EqNone.ne_bool_none (fin_bl I q (by simp))
    | bl j => cases ry; exact ne_bool (fin_bl I q (congrArg not dec_bl))
    | str j => obtain ⟨t', rfl⟩ := ry; exact PySem.EqMixed.ne_bool_str (fin_bl I q (by simp))
    | _ => exact absurd (show false = true from hs) Bool.false_ne_true
  | int i =>
    obtain ⟨t, rfl⟩ := rx
    cases y with
    | non => cases ry; exact PySem.EqNone.ne_int_none (fin_bl I q (by simp))
    | int j => obtain ⟨t', rfl⟩ := ry; exact ne_int (fin_bl I q (congrArg not dec_int))
    | str j => obtain ⟨t', rfl⟩ := ry; exact PySem.EqMixed.ne_int_str (fin_bl I q (by simp))
    | _ => exact absurd (show false = true from hs) Bool.false_ne_true
  | str i =>
    obtain ⟨t, rfl⟩ := rx
    cases y with
    | non => cases ry; exact PySem.EqNone.ne_str_none (fin_bl I q (by simp))
    | bl j => cases ry; exact PySem.EqMixed.ne_str_bool (fin_bl I q (by simp))
    | int j => obtain ⟨t', rfl⟩ := ry; exact PySem.EqMixed.ne_str_int (fin_bl I q (by simp))
    | str j => obtain ⟨t', rfl⟩ := ry; exact ne_str (fin_bl I q (congrArg not dec_str))
    | _ => exact absurd (show false = true from hs) Bool.false_ne_true
  | byt i =>
    obtain ⟨t, rfl⟩ := rx
    cases y with
    | byt j => obtain ⟨t', rfl⟩ := ry; exact PySem.W.ne_bytes (fin_bl I q (congrArg not dec_byt))
    | _ => exact absurd (show false = true from hs) Bool.false_ne_true
  | _ => cases y <;> exact absurd (show false = true from hs) Bool.false_ne_true

theorem op_lt : OpR X (compareOp .Lt) (rI0 fun i j => .bl (decide (i < j))) := opB0 fun _ _ _ _ _ _ _ q => lt_int q
theorem op_le : OpR X (compareOp .LtE) (rI0 fun i j => .bl (decide (i ≤ j))) := opB0 fun _ _ _ _ _ _ _ q => le_int q
theorem op_gt : OpR X (compareOp .Gt) (rI0 fun i j => .bl (decide (j < i))) := opB0 fun _ _ _ _ _ _ _ q => gt_int q
theorem op_ge : OpR X (compareOp .GtE) (rI0 fun i j => .bl (decide (j ≤ i))) := opB0 fun _ _ _ _ _ _ _ q => ge_int q
/-- the one string within the other -/
theorem op_in_str : OpR X (compareOp .In) (fun x y H Q => ∃ i j, x = .str i ∧ y = .str j ∧ Q (.bl (!(Builtin.Str.occurrences j i 0 j.length 1).isEmpty)) H) := by
  intro pins s σ H x y v u Q I rx ry h
  obtain ⟨i, j, rfl, rfl, q⟩ := h
  obtain ⟨t, rfl⟩ := rx
  obtain ⟨t', rfl⟩ := ry
  exact in_str (fin_bl I q rfl)




theorem nomark (b : Expr) {op : CmpOp} (h : op ≠ .In := by decide) (h2 : op ≠ .NotIn := by decide) : behindInMarks op b = false := by
  have e1 : (op == CmpOp.In) = false := by cases op <;> first | rfl | exact absurd rfl h
  have e2 : (op == CmpOp.NotIn) = false := by cases op <;> first | rfl | exact absurd rfl h2
  cases b <;> simp [behindInMarks, e1, e2]
/-- a comparison as a value; hm: nomark b, or (for in, not in) by with_unfolding_all rfl -/
theorem pe_cmpR {op : CmpOp} {r : R2} (ho : OpR X (compareOp op) r) (ha : PE X a ta) (hb : PE X b tb) (hm : behindInMarks op b = false) : PE X (.Compare a [op] [b] pos) (tOp r ta tb) := by
  intro pins s σ H Q I h
  exact wpAny_Compare1 (binT ha hb I h fun v u s2 x y H2 I2 rx ry q => ho pins s2 σ H2 x y v u Q I2 rx ry q) hm
/-- a reading of a value as a test -/
def tTest (t : TE) : TT := fun σ H Q => t σ H fun x H' => ∃ k, x = .bl k ∧ Q k H'
theorem pt_cmpR {op : CmpOp} {r : R2} (ho : OpR X (compareOp op) r) (ha : PE X a ta) (hb : PE X b tb) (hm : behindInMarks op b = false) : PT X (.Compare a [op] [b] pos) (tTest (tOp r ta tb)) := by
  intro pins s σ H Q I h
  refine wpAny_isTrue_Compare1 (thn (ha pins s σ H _ I h) fun v s1 ⟨x, H1, I1, r1, q1⟩ => thn (hb pins s1 σ H1 _ I1 q1) fun u s2 ⟨y, H2, I2, r2, q2⟩ =>
    thn (ho pins s2 σ H2 x y v u _ I2 r1 r2 q2) fun c s3 ⟨z, H3, I3, r3, k, e, q3⟩ => ?_) hm
  subst e
  cases r3
  exact wpAny_truthy_bool ⟨H3, I3, q3⟩
/-- a op1 b op2 c -/
def tChain (r r' : R2) (ta tb tc : TE) : TE := fun σ H Q => ta σ H fun x H1 => tb σ H1 fun y H2 => r x y H2 fun z H3 => ∃ k, z = .bl k ∧
  (if k = true then tc σ H3 fun w' H4 => r' y w' H4 Q else Q (.bl false) H3)
theorem pe_chain {op op' : CmpOp} {r r' : R2} (ho : OpR X (compareOp op) r) (ho' : OpR X (compareOp op') r') (ha : PE X a ta) (hb : PE X b tb) (hc : PE X c tc)
    (hm : lastMarks [op, op'] [b, c] = false := by with_unfolding_all rfl) : PE X (.Compare a [op, op'] [b, c] pos) (tChain r r' ta tb tc) := by
  intro pins s σ H Q I h
  refine Compare_chain (thn (ha pins s σ H _ I h) fun v s1 ⟨x, H1, I1, r1, q1⟩ => chain_link (thn (hb pins s1 σ H1 _ I1 q1) fun u s2 ⟨y, H2, I2, r2, q2⟩ =>
    thn (ho pins s2 σ H2 x y v u _ I2 r1 r2 q2) fun d s3 ⟨z, H3, I3, r3, k, e, q3⟩ => ?_)) hm
  subst e
  cases r3
  refine wpAny_truthy_bool ?_
  cases k with
  | false => exact ite_ff ⟨.bl false, H3, I3, rfl, q3⟩
  | true => exact ite_tt (chain_last (thn (hc pins s3 σ H3 _ I3 q3) fun w' s4 ⟨z', H4, I4, r4, q4⟩ => ho' pins s4 σ H4 y z' u w' Q I4 r2 r4 q4))
theorem pt_chain {op op' : CmpOp} {r r' : R2} (ho : OpR X (compareOp op) r) (ho' : OpR X (compareOp op') r') (ha : PE X a ta) (hb : PE X b tb) (hc : PE X c tc)
    (hm : lastMarks [op, op'] [b, c] = false := by with_unfolding_all rfl) : PT X (.Compare a [op, op'] [b, c] pos) (tTest (tChain r r' ta tb tc)) := by
  intro pins s σ H Q I h
  refine isTrue_chain (thn (ha pins s σ H _ I h) fun v s1 ⟨x, H1, I1, r1, q1⟩ => test_link (thn (hb pins s1 σ H1 _ I1 q1) fun u s2 ⟨y, H2, I2, r2, q2⟩ =>
    thn (ho pins s2 σ H2 x y v u _ I2 r1 r2 q2) fun d s3 ⟨z, H3, I3, r3, k, e, q3⟩ => ?_)) hm
  subst e
  cases r3
  refine wpAny_truthy_bool ?_
  cases k with
  | false =>
    obtain ⟨k', e', q'⟩ := q3
    cases e'
    exact ite_ff ⟨H3, I3, q'⟩
  | true =>
    refine ite_tt (test_last (thn (hc pins s3 σ H3 _ I3 q3) fun w' s4 ⟨z', H4, I4, r4, q4⟩ => thn (ho' pins s4 σ H4 y z' u w' _ I4 r2 r4 q4) fun d' s5 ⟨z2, H5, I5, r5, k2, e2, q5⟩ => ?_))
    subst e2
    cases r5
    exact wpAny_truthy_bool ⟨H5, I5, q5⟩

/-! ### truth -/
/-- a value's truth by the abstract heap -/
def TruV (K : PySem.W.Frag) (x : V) (H : Hp) (k : Bool) : Prop :=
  match x with
  | .non => k = false
  | .bl b => k = b
  | .int i => k = (i != 0)
  | .str y => y.length ≤ sizeLine ∧ k = ((y.length : Int) != 0)
  | .byt y => y.size ≤ sizeLine ∧ k = ((y.size : Int) != 0)
  | .ref p => (∃ xs, SqL K H p xs ∧ k = !xs.isEmpty) ∨ (∃ xs, SqT K H p xs ∧ k = !xs.isEmpty) ∨ ∃ kvs, H p = some (.dK kvs) ∧ k = !kvs.isEmpty
  | _ => False
theorem isEmpty_kv {κ : Type} {kvs : List (κ × V)} {vs : List (κ × Value)} (r : KV kvs vs) : (!vs.isEmpty) = !kvs.isEmpty := by
  cases r <;> rfl
theorem isEmpty_of {xs : List V} {its : List Value} (r : Vals xs its) : (!its.toArray.isEmpty) = !xs.isEmpty := by
  cases r <;> simp
theorem line63 : (sizeLine : Nat) < 2 ^ 63 := by rw [sizeLine_eq]; decide
theorem tru_ok : TruR X (fun x H Q => ∃ k, TruV X.K x H k ∧ Q k H) := by
  intro pins s σ H x v Q I rx h
  obtain ⟨k, e, q⟩ := h
  have hl := line63
  have hs : sizeLine = 16777216 := sizeLine_eq
  cases x with
  | non =>
    cases rx
    have e' : k = false := e
    subst e'
    exact truthy_none ⟨H, I, q⟩
  | bl b =>
    cases rx
    have e' : k = b := e
    subst e'
    exact wpAny_truthy_bool ⟨H, I, q⟩
  | int i =>
    obtain ⟨t, rfl⟩ := rx
    have e' : k = (i != 0) := e
    subst e'
    exact PySem.P.truthy_int ⟨H, I, q⟩
  | str y =>
    obtain ⟨t, rfl⟩ := rx
    obtain ⟨hy, e'⟩ : y.length ≤ sizeLine ∧ k = ((y.length : Int) != 0) := e
    subst e'
    exact PySem.P.truthy_str (by omega) ⟨H, I.tok _, q⟩
  | byt y =>
    obtain ⟨t, rfl⟩ := rx
    obtain ⟨hy, e'⟩ : y.size ≤ sizeLine ∧ k = ((y.size : Int) != 0) := e
    subst e'
    exact PySem.W.truthy_bytes (by omega) ⟨H, I.tok _, q⟩
  | ref p =>
    cases rx
    have e' : (∃ xs, SqL X.K H p xs ∧ k = !xs.isEmpty) ∨ (∃ xs, SqT X.K H p xs ∧ k = !xs.isEmpty) ∨ ∃ kvs, H p = some (.dK kvs) ∧ k = !kvs.isEmpty := e
    rcases e' with ⟨xs, hx, e'⟩ | ⟨xs, hx, e'⟩ | ⟨kvs, hx, e'⟩
    · subst e'
      obtain ⟨its, r, pl, hz⟩ := I.list hx
      have hlen := r.length
      exact wpAny_truthy_list pl.isList (by simp only [List.size_toArray]; omega) ⟨H, I.tok _, by rw [isEmpty_of r]; exact q⟩
    · subst e'
      obtain ⟨its, r, pl, hz⟩ := I.tuple hx
      have hlen := r.length
      exact truthy_tuple pl (by simp only [List.size_toArray]; omega) ⟨H, I.tok _, by rw [isEmpty_of r]; exact q⟩
    · subst e'
      obtain ⟨hz, hS, vs, r, m⟩ : kvs.length ≤ sizeLine ∧ (p == sysModules) = false ∧ ∃ vs, KV kvs vs ∧ s.heap.DictOf (mixKind X.prog X.w) p vs := I.hok p _ hx
      have hlen : kvs.length = vs.length := Paired.length r
      exact wpAny_truthy_dict hS m (by omega) ⟨H, I.tok _, by rw [isEmpty_kv r]; exact q⟩
  | _ => exact (show False from e).elim
/-- any expression whose test is its value's truth (a name, a call, a subscript, a field ..: he by fun _ => rfl) -/
theorem pt_truth (ha : PE X a ta) (he : ∀ whole, isTrue a X.env whole = (do let v ← whole; standAt a.pos; holding [v] (truthy v))) :
    PT X a (fun σ H Q => ta σ H fun x H' => ∃ k, TruV X.K x H' k ∧ Q k H') := by
  intro pins s σ H Q I h
  exact isTrue_plain (thn (ha pins s σ H _ I h) fun v s1 ⟨x, H1, I1, r1, q1⟩ => tru_ok pins s1 σ H1 x v Q I1 r1 q1) (he _)

/-! ### strs and bytes -/
theorem op_add_str : OpR X (binaryOp .Add) (fun x y H Q => ∃ i j, x = .str i ∧ y = .str j ∧ i.length + j.length ≤ sizeLine ∧ Q (.str (i ++ j)) H) := by
  intro pins s σ H x y v u Q I rx ry h
  obtain ⟨i, j, rfl, rfl, hz, q⟩ := h
  obtain ⟨t, rfl⟩ := rx
  obtain ⟨t', rfl⟩ := ry
  exact add_str (fun t' tk => ⟨.str (i ++ j), H, I.tok _, ⟨_, rfl⟩, q⟩) hz


/-! ### scalar builtins, by CallR -/
theorem vals1 {x : V} {us : List Value} (r : Vals [x] us) : ∃ u, us = [u] ∧ RelV x u := by
  cases r with
  | cons r1 r2 => cases r2; exact ⟨_, rfl, r1⟩
theorem vals2 {x y : V} {us : List Value} (r : Vals [x, y] us) : ∃ u w', us = [u, w'] ∧ RelV x u ∧ RelV y w' := by
  cases r with
  | cons r1 r2 =>
    cases r2 with
    | cons r3 r4 => cases r4; exact ⟨_, _, rfl, r1, r3⟩
theorem call_int1 : CallR X (.type "int") (fun xs H Q => (∃ i, xs = [.int i] ∧ Q (.int i) H) ∨ ∃ k, xs = [.bl k] ∧ Q (.int (if k then 1 else 0)) H) := by
  intro pins s σ H xs us Q I r h
  rcases h with ⟨i, rfl, q⟩ | ⟨k, rfl, q⟩
  · obtain ⟨u, rfl, t, rfl⟩ := vals1 r
    exact call_int_int ⟨.int i, H, I, ⟨_, rfl⟩, q⟩
  · obtain ⟨u, rfl, r1⟩ := vals1 r
    cases r1
    exact call_int_bool ⟨.int (if k then 1 else 0), H, I.tok _, ⟨_, rfl⟩, q⟩
end
end L2

namespace L2
open PySem PySem.Spec PyProof.Rows

/-! ### an instance, its attributes a map -/
structure ObjM (h : Heap) (x dx C : Addr) (mA : Str → Option Value) : Prop where
  obj : h.get? x = some (PySem.W.instObj C dx)
  ns : h.Ns1 dx mA
  ne : dx ≠ x

theorem lookIn_ns {h : Heap} {dx : Addr} {mA : Str → Option Value} (n : h.Ns1 dx mA) : ∃ od, h.get? dx = some od ∧ ∀ name, PySem.W.lookIn name od = some (mA name) := by
  obtain ⟨o, es, ep, ho, hd, hk, _, hm⟩ := n
  refine ⟨o, ho, fun name => ?_⟩
  have e := hm name
  unfold nsFind findBy at e
  rw [← Array.find?_toList] at e
  unfold PySem.W.lookIn
  rw [hd]
  dsimp only
  split
  · rename_i y q
    rw [q] at e
    exact congrArg some e
  · rename_i q
    rw [q] at e
    have a : es.toList.any (·.refKey) = false := by
      rw [List.any_eq_false]
      intro y hy
      obtain ⟨z, t, hkey⟩ := hk y (Array.mem_toList_iff.mp hy)
      simp [DictEntry.refKey, hkey]
    have a' : ¬ es.toList.any (·.refKey) = true := by rw [a]; exact Bool.false_ne_true
    rw [if_neg a']
    exact congrArg some e

theorem ObjM.look {h : Heap} {x dx C : Addr} {mA : Str → Option Value} (I : ObjM h x dx C mA) : ∃ od, PySem.W.InstAt h x (PySem.W.instObj C dx) C (some od) ∧ ∀ name, PySem.W.lookIn name od = some (mA name) :=
  let ⟨od, ho, hl⟩ := lookIn_ns I.ns
  ⟨od, ⟨I.obj, rfl, rfl, ho⟩, hl⟩

section
variable {prog : Program} {w : World} {A : Around} {E : Value → Shared → Prop} {s : Shared} {K : PySem.W.Frag} {x dx C f : Addr} {mA : Str → Option Value} {name : Str} {v : Value}





end

/-! ### the attributes as a list of pairs -/

theorem RelO.some_of {v : V} {o : Option Value} (r : RelO (some v) o) : ∃ u, o = some u ∧ RelV v u := by
  cases o with
  | none => exact (show False from r).elim
  | some u => exact ⟨u, rfl, r⟩

section
variable {P : Program} {w : World} {H H' : Hp} {h h' : Heap} {a C dx : Addr} {fs fs' : List (Str × V)}
theorem ins_get (hok : HOk P w H h) (e : H a = some (.ins C dx fs)) : ∃ mA, ObjM h a dx C mA ∧ (∀ f, RelO (fs.lookup f) (mA f)) ∧ PySem.Within mA (fs.map (·.1)) ∧ fs.length ≤ 1000 ∧ H dx = some (.own a) := by
  obtain ⟨d, z, ne, ob, mA, n, r, q⟩ := (show ObjOk P w H h a (.ins C dx fs) from hok a _ e)
  exact ⟨mA, ⟨ob, n, ne⟩, r, q, z, d⟩
end

/-! ### what of the text a class must have -/
structure Cls (K : PySem.W.Frag) (C : Addr) : Prop where
  pg : PySem.W.plainGet K C Str.empty = true
  hd : PySem.W.hasDictIn K C = true
  po : PySem.W.plainOver K C = true
  sa : PySem.W.findIn K (.ref C) "__setattr__" = some (some (.builtin "object.__setattr__"))
theorem Cls.get {K : PySem.W.Frag} {C : Addr} (c : Cls K C) (f : Str) : PySem.W.plainGet K C f = true := c.pg

section
variable {X : Cx} {pins : List (Addr × Obj)} {σ : St} {H : Hp} {s : Shared} {a C dx : Addr} {fs : List (Str × V)} {f : Str} {v : V} {A : Around} {E : Value → Shared → Prop}






end

/-! ### readings and rules -/

section
variable {X : Cx} {o e value : Expr} {f : Str} {pos pos' tpos : Pos} {ta tv : TE}

end

/-! ### isinstance -/
section
variable {X : Cx} {pins : List (Addr × Obj)} {σ : St} {H : Hp} {s : Shared} {A : Around} {E : Value → Shared → Prop} {Q : Value → Shared → Prop} {c : Value} {b : Bool}
/-- the type of a value, as the fragment's deciders take it; for an instance its class -/
inductive TyOf (K : PySem.W.Frag) (H : Hp) : V → Value → Prop where
  | non : TyOf K H .non (.type "NoneType")
  | bl (x : Bool) : TyOf K H (.bl x) (.type "bool")
  | int (i : Int) : TyOf K H (.int i) (.type "int")
  | str (x : Str) : TyOf K H (.str x) (.type "str")
  | flt (x : UInt64) : TyOf K H (.flt x) (.type "float")
  | lst {a : Addr} {xs : List V} (e : H a = some (.lst xs)) : TyOf K H (.ref a) (.type "list")
  | frz {a : Addr} {o : Obj} {xs : List V} (e : H a = some (.frz o (.lst xs))) : TyOf K H (.ref a) (.type "list")
  | tup {a : Addr} {xs : List V} (e : H a = some (.tup xs)) : TyOf K H (.ref a) (.type "tuple")
  | dK {a : Addr} {kvs : List (Key × V)} (e : H a = some (.dK kvs)) : TyOf K H (.ref a) (.type "dict")
  | dT {a : Addr} {kvs : List (List Key × V)} (e : H a = some (.dT kvs)) : TyOf K H (.ref a) (.type "dict")
  | ins {a C dx : Addr} {fs : List (Str × V)} (e : H a = some (.ins C dx fs)) (cl : Cls K C) (ha : PySem.W.findIn K (.ref C) "__class__" = some (some (.builtin "object.__class__")))
      (hn : PySem.W.specialIn K (.builtin "object.__class__") "__get__" = some (some (.builtin "getset_descriptor.__get__"))) (htk : PySem.W.takesIn K (.builtin "object.__class__") = some true)
      (hm : PySem.W.mroIn K C (.type "object") = some true) : TyOf K H (.ref a) (.ref C)
/-- isinstance(x, c) for one class c, a built-in or an own one: kitOne's answer -/
theorem isinst_ok {x : V} {u t : Value} (I : Inv X pins σ H s) (rx : RelV x u) (ty : TyOf X.K H x t) (e : PySem.W.kitOne X.K t c = some b) (h : ∀ tk, Q (.bool b) { s with toks := tk }) :
    wpAny (model X.prog X.w) A (call (.builtin "isinstance") [u, c]) Q E s := by
  cases ty with
  | non => cases (show u = Value.none from rx); exact PySem.W.kia_one PySem.W.kitx_none I.kIn True.intro e (fun z => nomatch z) h
  | bl y => cases (show u = Value.bool y from rx); exact PySem.W.kia_one PySem.W.kitx_bool I.kIn True.intro e (fun z => nomatch z) h
  | int i => obtain ⟨t, q⟩ := (show ∃ t, u = Value.int i t from rx); cases q; exact PySem.W.kia_one PySem.W.kitx_int I.kIn True.intro e (fun z => nomatch z) h
  | str y => obtain ⟨t, q⟩ := (show ∃ t, u = Value.str y t from rx); cases q; exact PySem.W.kia_one PySem.W.kitx_str I.kIn True.intro e (fun z => nomatch z) h
  | flt y => obtain ⟨t, q⟩ := (show ∃ t, u = Value.float y t from rx); cases q; exact PySem.W.kia_one PySem.W.kitx_float I.kIn True.intro e (fun z => nomatch z) h
  | @lst a xs ea =>
    cases (show u = Value.ref a from rx)
    obtain ⟨_, _, n, _, h1⟩ := (show ObjOk X.prog X.w H s.heap a (.lst xs) from I.hok a _ ea)
    exact PySem.W.kia_one PySem.W.kitx_list I.kIn ⟨_, h1, rfl⟩ e (fun z => nomatch z) h
  | @frz a ob xs ea =>
    cases (show u = Value.ref a from rx)
    obtain ⟨_, _, _, n, _, h1⟩ := (show ObjOk X.prog X.w H s.heap a (.frz ob (.lst xs)) from I.hok a _ ea)
    exact PySem.W.kia_one PySem.W.kitx_list I.kIn ⟨_, h1, rfl⟩ e (fun z => nomatch z) h
  | @tup a xs ea =>
    cases (show u = Value.ref a from rx)
    obtain ⟨_, _, _, p⟩ := (show ObjOk X.prog X.w H s.heap a (.tup xs) from I.hok a _ ea)
    obtain ⟨o, h1, h2, _⟩ := p
    exact PySem.W.kia_one PySem.W.kitx_tuple I.kIn ⟨o, h1, h2⟩ e (fun z => nomatch z) h
  | @dK a kvs ea =>
    cases (show u = Value.ref a from rx)
    obtain ⟨_, _, vs, _, p⟩ := (show ObjOk X.prog X.w H s.heap a (.dK kvs) from I.hok a _ ea)
    obtain ⟨o, es, ep, h1, h2, _⟩ := p
    exact PySem.W.kia_one PySem.W.kitx_dict I.kIn ⟨o, h1, h2.1⟩ e (fun z => nomatch z) h
  | @dT a kvs ea =>
    cases (show u = Value.ref a from rx)
    obtain ⟨_, _, xs, _, o, es, ep, h1, h2, _⟩ := (show ObjOk X.prog X.w H s.heap a (.dT kvs) from I.hok a _ ea)
    exact PySem.W.kia_one PySem.W.kitx_dict I.kIn ⟨o, h1, h2.1⟩ e (fun z => nomatch z) h
  | @ins a C dx fs ea cl ha hn htk hm =>
    cases (show u = Value.ref a from rx)
    obtain ⟨mA, O, _⟩ := ins_get I.hok ea
    obtain ⟨od, J, _⟩ := O.look
    exact PySem.W.kia_one (PySem.W.kitx_own (cl.get _) cl.hd ha hn htk hm) I.kIn J e (fun z => nomatch z) h
end
end L2

namespace L2
open PySem PySem.Spec PyProof.Rows

/-! ### room -/
structure Room (k : Nat) (A : Around) : Prop where
  hd : A.handled = none
  gd : A.guards = some []
  dp : A.depth + 3 * k + 5 < recursionLimit
  un : A.units + 16 * k + 200 < cLine
theorem Room.mono {j k : Nat} {A : Around} (r : Room k A) (h : j ≤ k) : Room j A := ⟨r.hd, r.gd, by have := r.dp; omega, by have := r.un; omega⟩
theorem Room.deeper {k : Nat} {A : Around} (r : Room (k + 1) A) (env : Env) : Room k (A.deeper env) :=
  ⟨r.hd, r.gd, by have := r.dp; show A.depth + 1 + 3 * k + 5 < _; omega, by have := r.un; show A.units + 3 + 16 * k + 200 < _; omega⟩
theorem Room.depth {k : Nat} {A : Around} (r : Room k A) : A.depth < recursionLimit := by have := r.dp; omega
theorem Room.units {k : Nat} {A : Around} (r : Room k A) : A.units + 64 < cLine := by have := r.un; omega
theorem Room.units0 {k : Nat} {A : Around} (r : Room k A) : A.units < cLine := by have := r.un; omega

/-! ### argument lists and displays -/
def tNil : TA := fun _ H Q => Q [] H
def tCons (ta : TE) (tr : TA) : TA := fun σ H Q => ta σ H fun x H1 => tr σ H1 fun xs H2 => Q (x :: xs) H2
section
variable {X : Cx} {e : Expr} {es : List Expr} {te : TE} {t : TA} {pos : Pos}
theorem pa_nil : PA X [] tNil := fun _ _ _ _ H Q I h => Calls.spliced_nil ⟨[], H, I, .nil, h⟩
theorem pa_cons (ha : PE X e te) (hr : PA X es t) (hs : starEach (e :: es) X.env = (false, eval e X.env) :: starEach es X.env := by rfl) : PA X (e :: es) (tCons te t) := by
  intro pos pins s σ H Q I h
  rw [hs]
  show wpAny _ _ (spliced ((false, eval e X.env) :: backTo pos (starEach es X.env))) _ _ s
  refine Calls.spliced_cons (thn (ha pins s σ H _ I h) fun u s1 ⟨x, H1, I1, r1, q1⟩ => ?_)
  exact thn (hr pos pins s1 σ H1 _ I1 q1) fun us s2 ⟨xs, H2, I2, r2, q2⟩ => ⟨x :: xs, H2, I2, .cons r1 r2, q2⟩

/-- a tuple, a list of written items -/
def tTup (t : TA) : TE := fun σ H Q => t σ H fun xs H1 => xs.length ≤ sizeLine ∧ ∀ p, H1 p = none → Q (.ref p) (upd H1 p (.tup xs))
def tLst (t : TA) : TE := fun σ H Q => t σ H fun xs H1 => xs.length ≤ sizeLine ∧ ∀ p, H1 p = none → Q (.ref p) (upd H1 p (.lst xs))
theorem pe_tup {x1} (h : PA X es t) : PE X (.Tuple es x1 pos) (tTup t) := by
  intro pins s σ H Q I hq
  refine wpAny_Tuple_spliced (thn (h pos pins s σ H _ I hq) fun us s1 ⟨xs, H1, I1, r, z, q⟩ => ⟨by rw [← r.length]; exact z, ?_⟩)
  have hf : H1 s1.heap.objs.size = none := I1.hok.fresh (Nat.le_refl _)
  refine ⟨.ref s1.heap.objs.size, upd H1 s1.heap.objs.size (.tup xs), I1.laid (t' := s1.toks) (fun b u e => Heap.get?_push_of_some _ e) (Nat.le_refl _) ?_, rfl, q _ hf⟩
  exact ⟨z, us, r, ⟨_, Heap.get?_push_size _ rfl, rfl, _, rfl⟩⟩
theorem pe_lst (h : PA X es t) : PE X (.List es pos) (tLst t) := by
  intro pins s σ H Q I hq
  refine wpAny_List_spliced (thn (h pos pins s σ H _ I hq) fun us s1 ⟨xs, H1, I1, r, z, q⟩ => ⟨by rw [← r.length]; exact z, ?_⟩)
  have hf : H1 s1.heap.objs.size = none := I1.hok.fresh (Nat.le_refl _)
  refine ⟨.ref s1.heap.objs.size, upd H1 s1.heap.objs.size (.lst xs), I1.laid (t' := s1.toks) (fun b u e => Heap.get?_push_of_some _ e) (Nat.le_refl _) ?_, rfl, q _ hf⟩
  exact ⟨z, us, 0, r, Heap.get?_push_size _ rfl⟩
end

/-! ### what a def promises -/
/-- a def's promise: the bound arguments in the parameters' order, the heap, the wanted end, the wanted exception -/
abbrev Sp := List V → Hp → VK → XK → Prop
/-- how an exception lies behind a call (file 08 gives it): the callers' frames, abstract heap and state ahead of the call, the wish, the exception, the state -/
abbrev CXT := List Env → Hp → Shared → XK → Value → Shared → Prop

/-- the state at a call -/
structure Env0 (P : Program) (w : World) (K : PySem.W.Frag) (mg : Str → Option Value) (base : Heap) (A : Around) (outer : List Env) (s : Shared) (H : Hp) : Prop where
  frames : A.frames = some outer
  mod : Mod K mg base
  bs : ∀ b o, base.get? b = some o → s.heap.get? b = some o ∧ H b = none
  bsz : base.objs.size ≤ s.heap.objs.size
  funs : s.heap.FunFrames base outer
  frf : ∀ b ∈ frs outer, H b = none
  hok : HOk P w H s.heap
  bare : AllBare s.gens
/-- a call's end -/
def CE (outer : List Env) (P : Program) (w : World) (H : Hp) (s : Shared) (Q : VK) (u : Value) (s' : Shared) : Prop :=
  ∃ v H', s'.os = s.os ∧ AllBare s'.gens ∧ Un (frs outer) [] H H' s.heap s'.heap ∧ HOk P w H' s'.heap ∧ RelV v u ∧ Q v H'
def CR (CX : CXT) (outer : List Env) (P : Program) (w : World) (H : Hp) (s : Shared) (Q : VK) (E : XK) (r : Result) (s' : Shared) : Prop :=
  match r with
  | .ok (.ret u) => CE outer P w H s Q u s'
  | .ok _ => False
  | .error e => CX outer H s E e s'
structure FnOk (P : Program) (w : World) (K : PySem.W.Frag) (mg : Str → Option Value) (base : Heap) (CX : CXT) (k : Nat) (f : Addr) (fd : FuncData) (ps : List Str) (sp : Sp) : Prop where
  len : ∀ vs H Q E, sp vs H Q E → vs.length = ps.length
  run : ∀ (A : Around) (outer : List Env) (s : Shared) (H : Hp) (args : Args) (us : List Value) (vs : List V) (Q : VK) (E : XK), Room k A → Env0 P w K mg base A outer s H → BindsTo s fd args (ps.zip us) → Vals vs us → sp vs H Q E →
    codeAny (model P w) A (.call (.ref f) args) (CR CX outer P w H s Q E) s
theorem FnOk.mono {P : Program} {w : World} {K : PySem.W.Frag} {mg : Str → Option Value} {base : Heap} {CX : CXT} {j k : Nat} {f : Addr} {fd : FuncData} {ps : List Str} {sp : Sp} (F : FnOk P w K mg base CX j f fd ps sp) (h : j ≤ k) :
    FnOk P w K mg base CX k f fd ps sp := ⟨F.len, fun A outer s H args us vs Q E hr => F.run A outer s H args us vs Q E (hr.mono h)⟩
/-- a weaker promise -/
theorem FnOk.imp {P : Program} {w : World} {K : PySem.W.Frag} {mg : Str → Option Value} {base : Heap} {CX : CXT} {k : Nat} {f : Addr} {fd : FuncData} {ps : List Str} {sp sp' : Sp} (F : FnOk P w K mg base CX k f fd ps sp)
    (h : ∀ vs H Q E, sp' vs H Q E → sp vs H Q E) : FnOk P w K mg base CX k f fd ps sp' :=
  ⟨fun vs H Q E q => F.len vs H Q E (h _ _ _ _ q), fun A outer s H args us vs Q E hr he hb hv hs => F.run A outer s H args us vs Q E hr he hb hv (h _ _ _ _ hs)⟩


section
variable {X : Cx} {pins : List (Addr × Obj)} {σ : St} {H : Hp} {s s' : Shared}
/-- from a body: what a callee wants -/
theorem Inv.env0 (I : Inv X pins σ H s) : Env0 X.prog X.w X.K X.mg X.base X.A X.stack s H :=
  ⟨I.ok.frames, I.ok.mod, I.bs, Nat.le_trans I.ok.bsz I.sz, I.stack, I.stkFree, I.hok, I.bare⟩
/-- behind a call -/
theorem Inv.after {Q : VK} {u : Value} (I : Inv X pins σ H s) (h : CE X.stack X.prog X.w H s Q u s') : EP X pins σ Q u s' := by
  obtain ⟨v, H', os, bare, un, hok, r, q⟩ := h
  obtain ⟨hh, g, d, t, os'⟩ := s'
  obtain rfl : os' = s.os := os
  exact ⟨v, H', I.call (h' := hh) (g' := g) (d' := d) (t' := t) (ch := []) un hok bare (fun b z => absurd z (by simp)), r, q⟩
end

/-! ### calls -/
/-- f(..): the written arguments, then the defaults dvs; E: what is wanted of an exception -/
def tCall (sp : Sp) (dvs : List V) (E : XK) (t : TA) : TE := fun σ H Q => t σ H fun vs H1 => sp (vs ++ dvs) H1 Q E

/-- how the parameters are bound: us the positional arguments, kw the keywords' values by name, ds the defaults that fill up -/
def Binds (K : PySem.W.Frag) (fd : FuncData) (ps : List Str) (ds : List Value) : Prop :=
  ∀ (s : Shared) (us : List Value), K.In s.heap → (us ++ ds).length = ps.length → BindsTo s fd ⟨us, []⟩ (ps.zip (us ++ ds))
/-- every parameter is given -/
theorem Binds.all {K : PySem.W.Frag} {fd : FuncData} {ps : List Str} (h : ∀ us : List Value, us.length = ps.length → bindArgs fd ⟨us, []⟩ = pure (ps.zip us)) : Binds K fd ps [] := fun s us _ hl => by
  rw [List.append_nil] at hl ⊢
  exact .of_eq (h us hl)

/-- an exception of a callee reaches what this body wants of exceptions -/
def Passes (CX : CXT) (X : Cx) (E : XK) : Prop := ∀ (pins : List (Addr × Obj)) (σ : St) (H : Hp) (s : Shared) (e : Value) (s' : Shared), Inv X pins σ H s → CX X.stack H s E e s' → X.xe e s'

section
variable {X : Cx} {CX : CXT} {k : Nat} {f C : Addr} {fd : FuncData} {ps : List Str} {sp : Sp} {dvs : List V} {ds : List Value} {E : XK} {x m : Str} {p pos apos : Pos} {e o : Expr} {es : List Expr} {ta : TE} {t : TA}

/-- the callee runs -/
theorem run_fn {pins : List (Addr × Obj)} {σ : St} {H : Hp} {s : Shared} {Q : VK} {us : List Value} {vs : List V} (F : FnOk X.prog X.w X.K X.mg X.base CX k f fd ps sp) (hr : Room k X.A) (hb : Binds X.K fd ps ds) (hd : Vals dvs ds) (hx : Passes CX X E)
    (I : Inv X pins σ H s) (r : Vals vs us) (h : sp (vs ++ dvs) H Q E) : wpAny (model X.prog X.w) X.A (call (.ref f) us) (EP X pins σ Q) X.xe s := by
  have r2 : Vals (vs ++ dvs) (us ++ ds) := r.append hd
  have hl : (us ++ ds).length = ps.length := by rw [← r2.length]; exact F.len _ _ _ _ h
  refine wpAny_call (codeAny_mono (F.run X.A X.stack s H ⟨us, []⟩ (us ++ ds) (vs ++ dvs) Q E hr I.env0 (hb s us I.kIn hl) r2 h) fun r s' hq => ?_)
  cases r with
  | error e => exact hx pins σ H s e s' I hq
  | ok fl =>
    cases fl with
    | ret u => exact I.after hq
    | next => exact False.elim hq
    | brk => exact False.elim hq
    | cont => exact False.elim hq

theorem pe_call (F : FnOk X.prog X.w X.K X.mg X.base CX k f fd ps sp) (hr : Room k X.A) (hg : Gl X x) (hm : X.mg x = some (.ref f)) (hk : PySem.W.keepIn X.K (.ref f) = true) (hb : Binds X.K fd ps ds) (hd : Vals dvs ds) (hx : Passes CX X E)
    (ha : PA X (e :: es) t) (hdb : (x == ("__debug__" : Str)) = false := by decide) (he : starEach (e :: es) X.env = (false, eval e X.env) :: starEach es X.env := by rfl) (hpl : (backTo pos (starEach es X.env)).any (·.1) = false := by rfl) :
    PE X (.Call (.Name x p) (e :: es) [] pos) (tCall sp dvs E t) := by
  intro pins s σ H Q I h
  refine wpAny_Call_Name_kw (ld_glob I hg hm ?_ hdb)
  refine PySem.W.callWith_K (h₀ := X.base) I.ok.mod.kin hk (thn (ha pos pins s σ H _ I h) fun us s1 ⟨vs, H1, I1, r, q⟩ => ⟨I1.kIn, ?_⟩) he hpl
  exact run_fn F hr hb hd hx I1 r q



end

/-! ### keywords -/
section
variable {X : Cx} {CX : CXT} {k : Nat} {f C : Addr} {fd : FuncData} {ps ks : List Str} {sp : Sp} {E : XK} {x m : Str} {p pos apos kpos : Pos} {e o : Expr} {es : List Expr} {kws : List Keyword} {te ta : TE} {t tk : TA} {nm : Option Str}

variable {g : List Value → List Value → List Value} {gV : List V → List V → List V}
end

/-! ### a def's body keeps its promise -/
/-- names: the parameters first -/
structure FnScope (N P : List Str) (sc : Scope) : Prop where
  kind : sc.kind = .function
  co : sc.isCoroutine = false
  gen : sc.isGenerator = false
  nd : N.Nodup
  pre : N.take P.length = P
  par : ∀ x ∈ P, sc.names.lookup x = some .local ∨ sc.names.lookup x = some .cell
  nofree : ∀ y ∈ sc.names, y.2 ≠ .free

theorem bindL_out {kindOf : Str → Option NameKind} {x : Str} : ∀ {binds : List (Str × Value)} {m : Str → Option Value}, (∀ v, (x, v) ∉ binds) → bindL kindOf binds m x = m x
  | [], _, _ => rfl
  | (n, v) :: r, m, h => by
    unfold bindL
    rw [bindL_out fun w hw => h w (List.mem_cons_of_mem _ hw)]
    split
    · have : x ≠ n := by rintro rfl; exact h v List.mem_cons_self
      simp [this]
    · rfl
theorem bindC_out {kindOf : Str → Option NameKind} {x : Str} : ∀ {binds : List (Str × Value)} {m : Str → Option Value}, (∀ v, (x, v) ∉ binds) → bindC kindOf binds m x = m x
  | [], _, _ => rfl
  | (n, v) :: r, m, h => by
    unfold bindC
    rw [bindC_out fun w hw => h w (List.mem_cons_of_mem _ hw)]
    split
    · rfl
    · have : x ≠ n := by rintro rfl; exact h v List.mem_cons_self
      simp [this]
theorem bindL_get {kindOf : Str → Option NameKind} {x : Str} {v : Value} : ∀ {P : List Str} {vs : List Value} {i : Nat} {m : Str → Option Value}, P.Nodup → P[i]? = some x → vs[i]? = some v → kindOf x = some .local →
    bindL kindOf (P.zip vs) m x = some v
  | [], _, _, _, _, h, _, _ => by simp at h
  | _ :: _, [], _, _, _, _, h, _ => by simp at h
  | p :: P, w :: vs, 0, m, nd, h1, h2, hk => by
    simp at h1 h2; subst h1; subst h2
    show bindL kindOf ((p, w) :: P.zip vs) m p = _
    unfold bindL
    rw [bindL_out fun v hv => (List.nodup_cons.mp nd).1 (List.of_mem_zip hv).1, if_pos hk]
    simp
  | p :: P, w :: vs, i + 1, m, nd, h1, h2, hk => by
    show bindL kindOf ((p, w) :: P.zip vs) m x = _
    unfold bindL
    exact bindL_get (i := i) (List.nodup_cons.mp nd).2 (by simpa using h1) (by simpa using h2) hk
theorem bindC_get {kindOf : Str → Option NameKind} {x : Str} {v : Value} : ∀ {P : List Str} {vs : List Value} {i : Nat} {m : Str → Option Value}, P.Nodup → P[i]? = some x → vs[i]? = some v → kindOf x ≠ some .local →
    bindC kindOf (P.zip vs) m x = some v
  | [], _, _, _, _, h, _, _ => by simp at h
  | _ :: _, [], _, _, _, _, h, _ => by simp at h
  | p :: P, w :: vs, 0, m, nd, h1, h2, hk => by
    simp at h1 h2; subst h1; subst h2
    show bindC kindOf ((p, w) :: P.zip vs) m p = _
    unfold bindC
    rw [bindC_out fun v hv => (List.nodup_cons.mp nd).1 (List.of_mem_zip hv).1, if_neg hk]
    simp
  | p :: P, w :: vs, i + 1, m, nd, h1, h2, hk => by
    show bindC kindOf ((p, w) :: P.zip vs) m x = _
    unfold bindC
    exact bindC_get (i := i) (List.nodup_cons.mp nd).2 (by simpa using h1) (by simpa using h2) hk

/-- the names' values at the entry -/
def start (N : List Str) (vs : List V) : St := vs.map some ++ List.replicate (N.length - vs.length) none

/-- the context of a def's body, at its entry; an exception leaves the frame, then lies as CX says -/
def cxOf (CX : CXT) (P : Program) (w : World) (K : PySem.W.Frag) (mg : Str → Option Value) (base : Heap) (N : List Str) (qual : Str) (scope : Scope) (f : Addr) (cd : Value) (A : Around) (outer : List Env) (s : Shared) (H : Hp) (E : XK) : Cx where
  prog := P
  w := w
  K := K
  mg := mg
  base := base
  A := A.deeper (envOfC qual scope s.heap.objs.size f cd)
  N := N
  s₀ := s
  H₀ := H
  env := envOfC qual scope s.heap.objs.size f cd
  outer := outer
  stack := envOfC qual scope s.heap.objs.size f cd :: outer
  ex := []
  calm := true
  fn := fun _ => true
  pn := []
  xe := fun e s' => wpAny (model P w) (A.deeper (envOfC qual scope s.heap.objs.size f cd)) (leaving (envOfC qual scope s.heap.objs.size f cd) e) (fun _ s'' => CX outer H s E e s'') (fun e' s'' => CX outer H s E e' s'') s'

theorem cell_has {sc : Scope} {n : Nat} {x : Str} (h : sc.names.lookup x = some .cell) : ∃ c, (cellsFrom n sc.names []).lookup x = some c := by
  have q := PySem.W.cellsFrom_some sc.names n [] (.inl h)
  exact Option.isSome_iff_exists.mp q

theorem inv_start {CX : CXT} {P : Program} {w : World} {K : PySem.W.Frag} {mg : Str → Option Value} {base : Heap} {N ps : List Str} {qual : Str} {scope : Scope} {f : Addr} {cd : Value} {A : Around} {outer : List Env} {s s1 : Shared} {H : Hp} {E : XK} {us : List Value} {vs : List V}
    (S : FnScope N ps scope) (hd : A.handled = none) (e0 : Env0 P w K mg base A outer s H) (hl : vs.length = ps.length) (r : Vals vs us)
    (x : InCallC s s.heap.objs.size (bindL (envOfC qual scope s.heap.objs.size f cd).kindOf (ps.zip us) fun _ => none) (cellsFrom (s.heap.objs.size + 1) scope.names []) (bindC (envOfC qual scope s.heap.objs.size f cd).kindOf (ps.zip us) fun _ => none) s1) :
    Inv (cxOf CX P w K mg base N qual scope f cd A outer s H E) [] (start N vs) H s1 := by
  have hpl : ps.length ≤ N.length := by have := congrArg List.length S.pre; rw [List.length_take] at this; omega
  obtain ⟨h1, tk, rfl, hk⟩ := x.done
  have noA : ∀ b : Addr, b ∉ (cxOf CX P w K mg base N qual scope f cd A outer s H E).ex := fun b z => absurd (show b ∈ ([] : List Addr) from z) (by simp)
  refine ⟨⟨e0.mod, S.kind, rfl, rfl, Nat.le_refl _, fun y z c h1 h2 => ?_, fun y hy => ?_, fun y c _ h => ?_, fun _ => hd, Around.frames_deeper e0.frames, .inr ⟨rfl, rfl⟩, fun b z => absurd z (noA b), e0.bs, e0.bsz, fun b _ _ => noA b, fun b z => absurd z (noA b), e0.funs, e0.frf⟩,
    rfl, e0.bare, Un.kept hk, ⟨_, x.toInCall.ns, fun i y v h1 h2 h3 => ?_⟩, fun y c h => ⟨_, x.cell y c h⟩, e0.hok.fresh (Nat.le_refl _), fun y c h => ?_, fun p hp => absurd (show p ∈ ([] : List (Addr × Obj)) from hp) (by simp), e0.hok.kept hk, ?_⟩
  · exact name_of_addr x.apart (PySem.mem_of_lookup h1) (PySem.mem_of_lookup h2)
  · have hy : scope.names.lookup y = some .cell ∨ scope.names.lookup y = some .free := hy
    rcases hy with hy | hy
    · exact cell_has hy
    · exact absurd rfl (S.nofree _ (PySem.mem_of_lookup hy))
  · exact Nat.le_of_lt (x.above y c (PySem.mem_of_lookup h))
  · have hi : i < vs.length := by
      unfold start at h2
      by_cases hi : i < vs.length
      · exact hi
      · rw [List.getElem?_append_right (by simpa using hi)] at h2
        rw [List.getElem?_replicate] at h2
        split at h2 <;> cases h2
    have ha : vs[i]? = some v := by
      unfold start at h2
      rw [List.getElem?_append_left (by simpa using hi), List.getElem?_map] at h2
      cases e : vs[i]? with
      | none => rw [e] at h2; cases h2
      | some a => rw [e] at h2; cases h2; rfl
    obtain ⟨u, hu, rv⟩ := r.get ha
    have hp : ps[i]? = some y := by
      rw [← S.pre, List.getElem?_take_of_lt (by omega)]; exact h1
    have ndP : ps.Nodup := by rw [← S.pre]; exact S.nd.sublist (List.take_sublist _ _)
    refine ⟨u, rv, ?_⟩
    rcases S.par y (List.mem_of_getElem? hp) with k | k
    · exact .inl ⟨k, bindL_get ndP hp hu k⟩
    · obtain ⟨c, e⟩ := cell_has (n := s.heap.objs.size + 1) k
      refine .inr ⟨.inl k, c, e, ?_⟩
      have q := x.cell y c e
      rw [bindC_get ndP hp hu (by show scope.names.lookup y ≠ _; rw [k]; decide)] at q
      exact q
  · exact e0.hok.fresh (Nat.le_of_lt (x.above y c (PySem.mem_of_lookup h)))
  · unfold start
    show _ = N.length
    rw [List.length_append, List.length_map, List.length_replicate]
    omega

/-- THE RULE: a def (or a method) of the text, by its body. The body's reading t is chosen for each entry; it is run at the parameters' values -/
theorem fn_of {CX : CXT} {P : Program} {w : World} {K : PySem.W.Frag} {mg : Str → Option Value} {base : Heap} {k : Nat} {f : Addr} {name qual : Str} {params : Arguments} {body : List Stmt} {scope : Scope} {dV kV doc pm cdv ct oc : Value} {an od : Option Addr}
    {osl : Array (Option Value)} {N ps : List Str} {sp : Sp} (lk : K.lookup f = some ⟨oc, od, .func (PySem.W.fnOf name qual params body scope dV kV doc pm an cdv ct), osl⟩) (hcd : PySem.W.codeIn K cdv qual = true) (S : FnScope N ps scope)
    (len : ∀ vs H Q E, sp vs H Q E → vs.length = ps.length)
    (hbody : ∀ (A : Around) (outer : List Env) (s : Shared) (H : Hp) (vs : List V) (Q : VK) (E : XK), Room k (A.deeper (envOfC qual scope s.heap.objs.size f cdv)) → sp vs H Q E →
      ∃ t, PSs (cxOf CX P w K mg base N qual scope f cdv A outer s H E) body t ∧ t { nx := fun _ H' => Q .non H', rt := Q } (start N vs) H) :
    FnOk P w K mg base CX (k + 1) f (PySem.W.fnOf name qual params body scope dV kV doc pm an cdv ct) ps sp := by
  refine ⟨len, fun A outer s H args us vs Q E hr e0 hb r hsp => ?_⟩
  have hl := len _ _ _ _ hsp
  have KX : K.In s.heap := e0.mod.kin.keeps fun b o e => (e0.bs b o e).1
  have lim : s.heap.NoLimit := e0.mod.nolimit.keeps fun b o e => (e0.bs b o e).1
  have hkind : ∀ y ∈ ps.zip us, scope.names.lookup y.1 = some .local ∨ (scope.names.lookup y.1 = some .cell ∧ ((cellsFrom (s.heap.objs.size + 1) scope.names []).lookup y.1).isSome = true) := fun ⟨n, v⟩ hy => by
    rcases S.par n (List.of_mem_zip hy).1 with q | q
    · exact .inl q
    · exact .inr ⟨q, PySem.W.cellsFrom_some _ _ _ (.inl q)⟩
  refine codeAny_call_function hr.depth (KX _ _ lk) rfl S.co S.gen rfl (PySem.W.codeRec_of KX hcd) (hb _ _ _ _ ?_)
  refine wpAny_newFunctionEnv_cells S.kind hkind fun env he s1 x => ?_
  subst he
  refine ⟨lim.keeps x.toInCall.keep, codeAny_func ?_⟩
  obtain ⟨t, ht, hq⟩ := hbody A outer s H vs Q E (hr.deeper _) hsp
  have I : Inv (cxOf CX P w K mg base N qual scope f cdv A outer s H E) [] (start N vs) H s1 := inv_start S hr.hd e0 hl r x
  refine wpAny_mono (ht [] s1 (start N vs) H _ I hq) (fun fl s' hs => ?_) fun e s' hs => hs
  have fin : ∀ {σ' : St} {H' : Hp} {v : V} {u : Value}, Inv (cxOf CX P w K mg base N qual scope f cdv A outer s H E) [] σ' H' s' → RelV v u → Q v H' → CE outer P w H s Q u s' :=
    fun {σ' H' v u} J rv q => ⟨v, H', J.os, J.bare, J.base, J.hok, rv, q⟩
  cases fl with
  | ret u =>
    obtain ⟨v, σ', H', J, rv, q⟩ := hs
    exact fin J rv q
  | next =>
    obtain ⟨σ', H', J, q⟩ := hs
    exact fin (v := V.non) (u := Value.none) J rfl q
  | brk =>
    obtain ⟨_, _, _, q⟩ := hs
    exact False.elim q
  | cont =>
    obtain ⟨_, _, _, q⟩ := hs
    exact False.elim q
end L2

namespace L2
open PySem PySem.Spec PyProof.Rows
section
variable {X : Cx} {x : Str} {p pos : Pos} {e : Expr} {es : List Expr} {t : TA} {id T : String} {r : List V → Hp → VK → Prop}

def tCB (r : List V → Hp → VK → Prop) (t : TA) : TE := fun σ H Q => t σ H fun vs H1 => r vs H1 Q
/-- f(e, ..), f a built-in function -/
theorem pe_callB (hc : CallR X (.builtin id) r) (hg : Gl X x) (hm : X.mg x = none) (hv : bootBuiltins x = some (.builtin id)) (ha : PA X (e :: es) t) (hn : x ≠ "__name__" := by decide) (hdb : (x == ("__debug__" : Str)) = false := by decide)
    (he : starEach (e :: es) X.env = (false, eval e X.env) :: starEach es X.env := by rfl) (hpl : (backTo pos (starEach es X.env)).any (·.1) = false := by rfl) : PE X (.Call (.Name x p) (e :: es) [] pos) (tCB r t) := by
  intro pins s σ H Q I h
  refine wpAny_Call_Name_kw (ld_blt I hg hm hv ?_ hn hdb)
  exact PyProof.Rows.callWith_builtin1 (thn (ha pos pins s σ H _ I h) fun us s1 ⟨vs, H1, I1, r1, q1⟩ => hc pins s1 σ H1 vs us Q I1 r1 q1) he hpl
/-- T(e, ..), T a built-in type -/
theorem pe_callTy (hc : CallR X (.type T) r) (hg : Gl X x) (hm : X.mg x = none) (hv : bootBuiltins x = some (.type T)) (ha : PA X (e :: es) t) (hn : x ≠ "__name__" := by decide) (hdb : (x == ("__debug__" : Str)) = false := by decide)
    (he : starEach (e :: es) X.env = (false, eval e X.env) :: starEach es X.env := by rfl) (hpl : (backTo pos (starEach es X.env)).any (·.1) = false := by rfl) : PE X (.Call (.Name x p) (e :: es) [] pos) (tCB r t) := by
  intro pins s σ H Q I h
  refine wpAny_Call_Name_kw (ld_blt I hg hm hv ?_ hn hdb)
  exact PyProof.Rows.callWith_type1 (thn (ha pos pins s σ H _ I h) fun us s1 ⟨vs, H1, I1, r1, q1⟩ => hc pins s1 σ H1 vs us Q I1 r1 q1) he hpl
end
end L2

namespace HT
open PySem PyProof.Rows



section
open PySem.SeqAt
open PySem.AutoSeq1 (wpAny_loadPart')
open PySem.MeetsSeq PySem.MeetsSeq2 PySem.MeetsSeq3

end

section
variable {prog : Program} {w : World} {A : Around} {E : Value → Shared → Prop} {s : Shared}


/-- t + u, t not empty -/
theorem cat_tup {t b : Addr} {vs ws : List Value} {Q : Value → Shared → Prop} (ht : IsTup s.heap t vs.toArray) (hb : IsTup s.heap b ws.toArray) (hv : vs ≠ [])
    (h1 : ws = [] → Q (.ref t) s) (h2 : ws ≠ [] → Q (.ref s.heap.objs.size) { s with heap := s.heap.push { cls := .type "tuple", data := .seq (vs ++ ws).toArray } })
    (hsz : vs.length + ws.length ≤ sizeLine) : wpAny (model prog w) A (binaryOp .Add (.ref t) (.ref b)) Q E s := by
  obtain ⟨⟨cls, dd, data, sl⟩, ho, hc, n, hd⟩ := id ht
  obtain ⟨⟨cls2, dd2, data2, sl2⟩, ho2, hc2, n2, hd2⟩ := id hb
  simp only at hc hd hc2 hd2
  subst hc hd hc2 hd2
  have e : vs.toArray ++ ws.toArray = (vs ++ ws).toArray := by simp
  by_cases hw : ws = []
  · exact concat_meets ⟨_, ho, rfl⟩ ⟨_, ho2, rfl⟩ noFill_tuple_add seq_tuple_add PySem.F.slot_tuple_add PySem.F.entry_tuple_add (PySem.F.args_tuple_add_2 _ _)
      (tuple_addW1 t b vs.toArray ws.toArray n n2 dd dd2 sl sl2 (by simpa using hv) (by simp [hw])) ⟨ho, ho2, h1 hw⟩
  · refine concat_meets ⟨_, ho, rfl⟩ ⟨_, ho2, rfl⟩ noFill_tuple_add seq_tuple_add PySem.F.slot_tuple_add PySem.F.entry_tuple_add (PySem.F.args_tuple_add_2 _ _)
      (tuple_addW2 t b vs.toArray ws.toArray n n2 dd dd2 sl sl2 (by simpa using hv) (by simpa using hw) (by rw [List.size_toArray, List.size_toArray]; exact hsz)) ⟨ho, ho2, ?_⟩
    rw [e]
    exact h2 hw

/-! ### t[a:b], not the whole -/
/-- a slice's bound as a place among n (d where it is left out) -/
def sIx (n d : Nat) : Option Int → Nat
  | none => d
  | some v => if v < 0 then (v + (n : Int)).toNat else min v.toNat n
theorem sIx_le (n d : Nat) (hd : d ≤ n) (o : Option Int) : sIx n d o ≤ n := by
  cases o with
  | none => exact hd
  | some v =>
    show (if v < 0 then (v + (n : Int)).toNat else min v.toNat n) ≤ n
    by_cases hv : v < 0
    · rw [if_pos hv]; omega
    · rw [if_neg hv]; exact Nat.min_le_right _ _
theorem clip_eq (v : Int) (n d : Nat) : (if v < 0 then max (v + (n : Int)) 0 else min v (n : Int)) = ((sIx n d (some v) : Nat) : Int) := by
  show (if v < 0 then max (v + (n : Int)) 0 else min v (n : Int)) = (((if v < 0 then (v + (n : Int)).toNat else min v.toNat n) : Nat) : Int)
  by_cases hv : v < 0
  · simp only [if_pos hv]; omega
  · simp only [if_neg hv]; omega
theorem adjust_gen (lo hi : Option Int) (n : Nat) : Builtin.Slice.sliceAdjust lo hi 1 (n : Int) = (((sIx n 0 lo : Nat) : Int), ((sIx n n hi : Nat) : Int)) := by
  have h1 : ¬ ((1 : Int) < 0) := by omega
  unfold Builtin.Slice.sliceAdjust
  simp only [h1, if_false]
  refine Prod.ext ?_ ?_
  · cases lo with
    | none => rfl
    | some v => exact clip_eq v n 0
  · cases hi with
    | none => rfl
    | some v => exact clip_eq v n n
theorem places_gen (i j : Nat) : Builtin.Slice.slicePlaces (i : Int) (j : Int) 1 = j - i := by
  unfold Builtin.Slice.slicePlaces
  have h1 : (1 : Int) > 0 := by omega
  simp only [h1, if_true, Int.ediv_one]
  split <;> omega
theorem slicePart_ {v : Value} {o : Option Int} {Q : Option Int → Shared → Prop} (p : IsPart v o) (h : Q o s) : wpAny (model prog w) A (Builtin.Slice.slicePartIndex v) Q E s := by
  cases p with
  | none => exact slicePart_none h
  | int i t => exact slicePart_int h
theorem sliceApplied_gen {sl : Addr} {vl vu : Value} {lo hi : Option Int} {n : Nat} {Q : Int × Int × Nat → Shared → Prop} (hs : s.heap.IsSliceOf sl vl vu .none) (pl : IsPart vl lo) (pu : IsPart vu hi)
    (h : Q (((sIx n 0 lo : Nat) : Int), 1, sIx n n hi - sIx n 0 lo) s) : wpAny (model prog w) A (Builtin.Slice.sliceApplied (.ref sl) (pure (n : Int))) Q E s := by
  obtain ⟨os, hos, hcs, hds⟩ := id hs
  unfold Builtin.Slice.sliceApplied Builtin.Slice.sliceFields
  refine wpAny_bind (wpAny_bind (wpAny_field hos hds (x := vl) rfl (wpAny_bind (wpAny_field hos hds (x := vu) rfl (wpAny_bind (wpAny_field hos hds (x := .none) rfl (wpAny_pure ?_)))))))
  refine wpAny_bind (slicePart_none ?_)
  show wpAny _ _ (if ((1 : Int) == 0) = true then _ else _) _ _ s
  rw [if_neg (by decide)]
  refine wpAny_bind (slicePart_ pl (wpAny_bind (slicePart_ pu (wpAny_bind (wpAny_pure ?_)))))
  show wpAny _ _ (match Builtin.Slice.sliceAdjust lo hi 1 (n : Int) with | (lo, hi) => pure (lo, (1 : Int), Builtin.Slice.slicePlaces lo hi 1)) _ _ s
  rw [adjust_gen lo hi n]
  show wpAny _ _ (pure (((sIx n 0 lo : Nat) : Int), (1 : Int), Builtin.Slice.slicePlaces ((sIx n 0 lo : Nat) : Int) ((sIx n n hi : Nat) : Int) 1)) _ _ s
  rw [places_gen]
  exact wpAny_pure h
theorem pick_gen (xs : Array Value) (i k : Nat) : ((List.range k).filterMap fun (m : Nat) => xs[((i : Int) + (m : Int) * 1).toNat]?).toArray = ((xs.toList.drop i).take k).toArray := by
  have e : (fun (m : Nat) => xs[((i : Int) + (m : Int) * 1).toNat]?) = fun m => xs[i + m]? := by
    funext m
    have : ((i : Int) + (m : Int) * 1).toNat = i + m := by omega
    rw [this]
  rw [e]
  have := pick_run xs i k
  rw [List.filterMap_map] at this
  have e2 : ((fun x => xs[x]?) ∘ fun x => i + x) = fun m => xs[i + m]? := rfl
  rw [e2] at this
  rw [this]

theorem getItem_tuple_cut {t sl : Addr} {items : Array Value} {vl vu : Value} {lo hi : Option Int} {Q : Value → Shared → Prop} (ht : IsTup s.heap t items) (hs : s.heap.IsSliceOf sl vl vu .none) (pl : IsPart vl lo) (pu : IsPart vu hi)
    (hw : ¬ (sIx items.size 0 lo = 0 ∧ sIx items.size items.size hi = items.size))
    (h : Q (.ref s.heap.objs.size) { s with heap := s.heap.push { cls := .type "tuple", data := .seq ((items.toList.drop (sIx items.size 0 lo)).take (sIx items.size items.size hi - sIx items.size 0 lo)).toArray } })
    (hsz : items.size ≤ sizeLine) : wpAny (model prog w) A (getItem (.ref t) (.ref sl)) Q E s := by
  have htake : sizeOk (.seq ((items.toList.drop (sIx items.size 0 lo)).take (sIx items.size items.size hi - sIx items.size 0 lo)).toArray) := by
    show ((items.toList.drop (sIx items.size 0 lo)).take (sIx items.size items.size hi - sIx items.size 0 lo)).toArray.size ≤ sizeLine
    rw [List.size_toArray, List.length_take, List.length_drop, Array.length_toList]
    omega
  have hj : sIx items.size items.size hi ≤ items.size := sIx_le _ _ (Nat.le_refl _) hi
  obtain ⟨os, hos, hcs, hds⟩ := id hs
  have hTs : s.TypeIs (.ref sl) "slice" := ⟨os, hos, hcs⟩
  unfold getItem
  try with_reducible refine wpAny_holding ?_
  first | refine wpAny_bind (wpAny_pure ?_) | skip
  refine wpAny_bind (wpAny_sequenceKey ht.typeIs (by decide) ?_)
  refine wpAny_bind (wpAny_callSpecial?_slot (name := Str.ofString "__getitem__") ht.typeIs PyProof.Rows.slot_tuple_getitem
    (wpAny_call_entry PyProof.Rows.slot_tuple_getitem ht.typeIs entry_tuple_getitem ?_ (args_tuple_getitem _ _)))
  show wpAny _ _ (Builtin.Tuple.tupleItemsOf (.ref t) >>= _) _ _ s
  refine wpAny_bind (tupleItemsOf_ ht ?_)
  refine wpAny_bind (wpAny_typeOf hTs ?_)
  rw [if_pos (by decide)]
  refine wpAny_bind (sliceApplied_gen hs pl pu ?_)
  have hno : ¬ ((((sIx items.size 0 lo : Nat) : Int) == 0 && (1 : Int) == 1 && (sIx items.size items.size hi - sIx items.size 0 lo) == items.size) = true) := by
    intro q
    rw [Bool.and_eq_true, Bool.and_eq_true] at q
    have q1 : ((sIx items.size 0 lo : Nat) : Int) = 0 := eq_of_beq q.1.1
    have q2 : sIx items.size items.size hi - sIx items.size 0 lo = items.size := eq_of_beq q.2
    exact hw ⟨by omega, by omega⟩
  show wpAny _ _ (if (((sIx items.size 0 lo : Nat) : Int) == 0 && (1 : Int) == 1 && (sIx items.size items.size hi - sIx items.size 0 lo) == items.size) = true then _ else _) _ _ s
  rw [if_neg hno, pick_gen]
  first
    | exact wpAny_bind (m := Builtin.Tuple.tupleExact _) (wpAny_newObj_type (wpAny_pure ⟨_, rfl, wpAny_pure h⟩) htake)
    | exact wpAny_bind (m := Builtin.Tuple.tupleExact _) (wpAny_newObj_type (wpAny_bind (wpAny_pure (wpAny_pure ⟨_, rfl, wpAny_pure h⟩))) htake)
    | exact wpAny_bind (wpAny_bind (m := Builtin.Tuple.tupleExact _) (wpAny_newObj_type (wpAny_pure (wpAny_pure ⟨_, rfl, wpAny_pure h⟩)) htake))
    | exact wpAny_bind (wpAny_bind (m := Builtin.Tuple.tupleExact _) (wpAny_newObj_type (wpAny_pure ⟨_, rfl, wpAny_pure h⟩) htake))
end
end HT

namespace L2
open PySem PySem.Spec PyProof.Rows

/-! ### the parts of a slice -/
abbrev TO := St → Hp → (Option Int → Hp → Prop) → Prop
/-- a slice's part (left out, or an int) -/
def PO (X : Cx) (e : Option Expr) (t : TO) : Prop :=
  ∀ (pins : List (Addr × Obj)) (s : Shared) (σ : St) (H : Hp) (Q : Option Int → Hp → Prop), Inv X pins σ H s → t σ H Q →
    wpAny (model X.prog X.w) X.A (evalPart e X.env) (fun u s' => ∃ o H', Inv X pins σ H' s' ∧ IsPart u o ∧ Q o H') X.xe s
def tNoPart : TO := fun _ H Q => Q none H
def tPart (t : TE) : TO := fun σ H Q => t σ H fun x H1 => ∃ i, x = .int i ∧ Q (some i) H1

theorem intsAre_of {ns : List Int} : ∀ {us : List Value}, Vals (ns.map V.int) us → IntsAre us ns := by
  induction ns with
  | nil => intro us r; rw [List.map_nil] at r; cases r; exact .nil
  | cons n ns ih =>
    intro us r
    rw [List.map_cons] at r
    cases r with
    | cons r1 r2 =>
      obtain ⟨t, e⟩ := r1
      subst e
      exact .cons n t (ih r2)

section
variable {X : Cx} {e : Expr} {te : TE} {lo hi : Option Expr} {tl th : TO} {pos p2 : Pos}

theorem po_none : PO X none tNoPart := by
  intro pins s σ H Q I h
  rw [evalPart_none]
  exact wpAny_pure ⟨none, H, I, .none, h⟩
theorem po_some (h : PE X e te) : PO X (some e) (tPart te) := by
  intro pins s σ H Q I hw
  rw [evalPart_some]
  refine thn (h pins s σ H _ I hw) fun u s1 ⟨x, H1, I1, r1, q1⟩ => ?_
  obtain ⟨i, rfl, q⟩ := q1
  obtain ⟨t, rfl⟩ := r1
  exact ⟨some i, H1, I1, .int i t, q⟩

/-- what a slice of a value is, by values: the slice object stands at sl -/
def SlR (X : Cx) (r : V → Option Int → Option Int → Hp → VK → Prop) : Prop :=
  ∀ (pins : List (Addr × Obj)) (s : Shared) (σ : St) (H : Hp) (x : V) (v vl vu : Value) (lo hi : Option Int) (sl : Addr) (Q : VK), Inv X pins σ H s → RelV x v → s.heap.IsSliceOf sl vl vu .none → IsPart vl lo → IsPart vu hi → r x lo hi H Q →
    ∃ T id, typeLookup (.type T) "__getitem__" = pure (some (.builtin id)) ∧ s.TypeIs v T ∧ wpAny (model X.prog X.w) X.A (getItem v (.ref sl)) (EP X pins σ Q) X.xe s
def tSl (r : V → Option Int → Option Int → Hp → VK → Prop) (te : TE) (tl th : TO) : TE := fun σ H Q => te σ H fun x H1 => tl σ H1 fun l H2 => th σ H2 fun u H3 => r x l u H3 Q
/-- a[lo:hi], any a -/
theorem pe_slice {r : V → Option Int → Option Int → Hp → VK → Prop} (hr : SlR X r) (he : PE X e te) (hl : PO X lo tl) (hu : PO X hi th) : PE X (.Subscript e (.Slice lo hi none p2) pos) (tSl r te tl th) := by
  intro pins s σ H Q I h
  refine Subscript_ (thn (he pins s σ H _ I h) fun v s1 ⟨x, H1, I1, r1, q1⟩ => ?_)
  refine wpAny_Slice (thn (hl pins s1 σ H1 _ I1 q1) fun vl s2 ⟨l, H2, I2, pl, q2⟩ => thn (hu pins s2 σ H2 _ I2 q2) fun vu s3 ⟨u, H3, I3, pu, q3⟩ => ?_)
  rw [evalPart_none]
  refine wpAny_pure ?_
  have I4 : Inv X pins σ H3 { s3 with heap := s3.heap.push { cls := .type "slice", data := .fields #[vl, vu, .none] } } := I3.kept (t' := s3.toks) fun b ob q => Heap.get?_push_of_some _ q
  obtain ⟨T, id, hT, ht, hg⟩ := hr pins { s3 with heap := s3.heap.push { cls := .type "slice", data := .fields #[vl, vu, .none] } } σ H3 x v vl vu l u s3.heap.objs.size Q I4 r1 (Heap.IsSliceOf.new ..) pl pu q3
  show wpAny (model X.prog X.w) X.A (subscriptTail e (.Slice lo hi none p2) v (.ref s3.heap.objs.size)) (EP X pins σ Q) X.xe { s3 with heap := s3.heap.push { cls := .type "slice", data := .fields #[vl, vu, .none] } }
  exact tail_any (ops := [.ref s3.heap.objs.size, v]) ht hT hg (by with_unfolding_all rfl)

/-- the items of xs[lo:hi] -/
def cutV (xs : List V) (lo hi : Option Int) : List V := (xs.drop (HT.sIx xs.length 0 lo)).take (HT.sIx xs.length xs.length hi - HT.sIx xs.length 0 lo)
theorem cutV_length (xs : List V) (lo hi : Option Int) : (cutV xs lo hi).length ≤ xs.length := by
  unfold cutV
  rw [List.length_take, List.length_drop]
  omega
/-- t[lo:hi], not the whole of it (the whole would be t itself) -/
def rSlT (K : PySem.W.Frag) : V → Option Int → Option Int → Hp → VK → Prop := fun x lo hi H Q => ∃ a xs, x = .ref a ∧ SqT K H a xs ∧
  ¬ (HT.sIx xs.length 0 lo = 0 ∧ HT.sIx xs.length xs.length hi = xs.length) ∧ ∀ p, H p = none → Q (.ref p) (upd H p (.tup (cutV xs lo hi)))
theorem sl_tup : SlR X (rSlT X.K) := by
  intro pins s σ H x v vl vu lo hi sl Q I rx hs pl pu h
  obtain ⟨a, xs, rfl, hx, hw, q⟩ := h
  cases rx
  obtain ⟨its, r, ht, hz⟩ := I.tuple hx
  have hlen : its.toArray.size = xs.length := by rw [List.size_toArray]; exact r.length.symm
  refine ⟨"tuple", _, PyProof.Rows.slot_tuple_getitem.lookup, ht.typeIs, ?_⟩
  refine HT.getItem_tuple_cut ht hs pl pu (by rw [hlen]; exact hw) ?_ (by rw [hlen]; exact hz)
  rw [hlen]
  refine ⟨.ref s.heap.objs.size, _, I.laid (t' := s.toks) (o := .tup (cutV xs lo hi)) (fun b ob q => Heap.get?_push_of_some _ q) (Nat.le_refl _) ?_, rfl, q _ (I.hok.fresh (Nat.le_refl _))⟩
  exact ⟨Nat.le_trans (cutV_length xs lo hi) hz, _, (r.drop (HT.sIx xs.length 0 lo)).take (HT.sIx xs.length xs.length hi - HT.sIx xs.length 0 lo), IsTup.new _ _⟩

/-! ### t < u, t + u -/
/-- t + u, t not empty: u empty gives t itself -/
def rCatT (K : PySem.W.Frag) : R2 := fun x y H Q => ∃ a b xs ys, x = .ref a ∧ y = .ref b ∧ SqT K H a xs ∧ SqT K H b ys ∧ xs ≠ [] ∧ xs.length + ys.length ≤ sizeLine ∧
  (ys = [] → Q (.ref a) H) ∧ (ys ≠ [] → ∀ p, H p = none → Q (.ref p) (upd H p (.tup (xs ++ ys))))
theorem Vals.nil_iff {xs : List V} {us : List Value} (r : Vals xs us) : us = [] ↔ xs = [] := by
  cases r with
  | nil => simp
  | cons _ _ => simp
theorem op_catT : OpR X (binaryOp .Add) (rCatT X.K) := by
  intro pins s σ H x y v u Q I rx ry h
  obtain ⟨a, b, xs, ys, rfl, rfl, ha, hb, hx, hz, q1, q2⟩ := h
  cases rx
  cases ry
  obtain ⟨its, r1, p1, _⟩ := I.tuple ha
  obtain ⟨its2, r2, p2, _⟩ := I.tuple hb
  refine HT.cat_tup p1 p2 (fun z => hx (r1.nil_iff.mp z)) (fun z => ⟨.ref a, H, I, rfl, q1 (r2.nil_iff.mp z)⟩) (fun z => ?_) (by rw [← r1.length, ← r2.length]; exact hz)
  refine ⟨.ref s.heap.objs.size, _, I.laid (t' := s.toks) (o := .tup (xs ++ ys)) (fun b ob q => Heap.get?_push_of_some _ q) (Nat.le_refl _) ?_, rfl, q2 (fun w => z (r2.nil_iff.mpr w)) _ (I.hok.fresh (Nat.le_refl _))⟩
  exact ⟨by rw [List.length_append]; exact hz, _, r1.append r2, IsTup.new _ _⟩
end
end L2

namespace L2
open PySem PySem.Spec PyProof.Rows

/-! ### places -/
/-- the place that an index of any sign means -/
def ixN (n : Nat) (i : Int) : Option Nat := if 0 ≤ i then (if i < n then some i.toNat else none) else if -(n : Int) ≤ i then some (i + n).toNat else none
def atI {α : Type} (xs : List α) (i : Int) : Option α := (ixN xs.length i).bind fun j => xs[j]?
theorem ixN_seq {n : Nat} {i : Int} {j : Nat} (h : ixN n i = some j) : seqIndex? i n = some j ∧ j < n ∧ -(n : Int) ≤ i ∧ i < n := by
  unfold ixN at h
  by_cases h0 : 0 ≤ i
  · rw [if_pos h0] at h
    by_cases h1 : i < n
    · rw [if_pos h1] at h
      have e : i.toNat = j := Option.some.inj h
      exact ⟨by rw [seqIndex_of h0 h1, e], by omega, by omega, h1⟩
    · rw [if_neg h1] at h; cases h
  · rw [if_neg h0] at h
    by_cases h1 : -(n : Int) ≤ i
    · rw [if_pos h1] at h
      have e : (i + n).toNat = j := Option.some.inj h
      exact ⟨by rw [seqIndex_neg (by omega) h1, e], by omega, h1, by omega⟩
    · rw [if_neg h1] at h; cases h
theorem atI_get {α : Type} {xs : List α} {i : Int} {v : α} (h : atI xs i = some v) : ∃ j, seqIndex? i xs.length = some j ∧ xs[j]? = some v ∧ j < xs.length ∧ -(xs.length : Int) ≤ i ∧ i < xs.length := by
  unfold atI at h
  cases e : ixN xs.length i with
  | none => rw [e] at h; cases h
  | some j =>
    rw [e] at h
    obtain ⟨h1, h2, h3, h4⟩ := ixN_seq e
    exact ⟨j, h1, h, h2, h3, h4⟩
theorem atI_nat {α : Type} {xs : List α} {j : Nat} {v : α} (h : xs[j]? = some v) : atI xs (j : Int) = some v := by
  have hj : j < xs.length := (List.getElem?_eq_some_iff.mp h).1
  have e : ixN xs.length (j : Int) = some j := by
    unfold ixN
    rw [if_pos (by omega), if_pos (by omega)]; simp
  unfold atI; rw [e]; exact h

/-! ### what may be subscripted -/
/-- what stands as an index of a plain subscript -/
def PlainIx (b : Expr) : Prop := ∀ o i, subscripted b false o i = operate [o, i] (getItem o i)
/-- a subscript by values -/
def IxR (X : Cx) (r : R2) : Prop :=
  ∀ (value slice : Expr) (pins : List (Addr × Obj)) (s : Shared) (σ : St) (H : Hp) (x y : V) (v u : Value) (Q : VK), Inv X pins σ H s → RelV x v → RelV y u → r x y H Q →
    subscripted slice false v u = operate [v, u] (getItem v u) → wpAny (model X.prog X.w) X.A (subscriptTail value slice v u) (EP X pins σ Q) X.xe s
/-- a call of a builtin's method by values: the receiver, the arguments -/
def MtR (X : Cx) (id : String) (r : V → List V → Hp → VK → Prop) : Prop :=
  ∀ (pins : List (Addr × Obj)) (s : Shared) (σ : St) (H : Hp) (x : V) (xs : List V) (v : Value) (us : List Value) (Q : VK), Inv X pins σ H s → RelV x v → Vals xs us → r x xs H Q →
    wpAny (model X.prog X.w) X.A (call (.builtin id) (v :: us)) (EP X pins σ Q) X.xe s
section
variable {X : Cx} {a b : Expr} {ta tb : TE} {pos : Pos}
/-- a[b] -/
theorem pe_ix {r : R2} (hr : IxR X r) (ha : PE X a ta) (hb : PE X b tb) (hs : PlainIx b) : PE X (.Subscript a b pos) (tOp r ta tb) := by
  intro pins s σ H Q I h
  exact Subscript_ (binT ha hb I h fun v u s2 x y H2 I2 rx ry q => hr a b pins s2 σ H2 x y v u Q I2 rx ry q (hs _ _))

def rIxL (K : PySem.W.Frag) : R2 := fun x y H Q => ∃ p xs i v, x = .ref p ∧ y = .int i ∧ SqL K H p xs ∧ atI xs i = some v ∧ Q v H
def rIxT (K : PySem.W.Frag) : R2 := fun x y H Q => ∃ p xs i v, x = .ref p ∧ y = .int i ∧ SqT K H p xs ∧ atI xs i = some v ∧ Q v H
def rIxS : R2 := fun x y H Q => ∃ z i c, x = .str z ∧ y = .int i ∧ z.length ≤ sizeLine ∧ atI z.cps.toList i = some c ∧ Q (.str ⟨#[c]⟩) H
theorem ix_list : IxR X (rIxL X.K) := by
  intro value slice pins s σ H x y v u Q I rx ry h hs
  obtain ⟨p, xs, i, z, rfl, rfl, hq, he, q⟩ := h
  cases rx
  obtain ⟨t, rfl⟩ := ry
  obtain ⟨its, r, pl, hz⟩ := I.list hq
  obtain ⟨j, h1, h2, h3, h4, h5⟩ := atI_get he
  obtain ⟨w, ew, rw'⟩ := r.get h2
  have hl := r.length
  have hn := line63
  have fin : EP X pins σ Q w s := ⟨z, H, I, rw', q⟩
  by_cases h0 : 0 ≤ i
  · have hj : i.toNat = j := by
      rw [seqIndex_of h0 h5] at h1
      exact Option.some.inj h1
    exact item_listR pl.isList h0 (by omega) (by rw [hj]; simpa using ew) fin hs
  · have hj : (i + (its.toArray.size : Int)).toNat = j := by
      rw [seqIndex_neg (by omega) h4] at h1
      rw [List.size_toArray, ← hl]
      exact Option.some.inj h1
    exact subscriptTail_builtinR (x := w) pl.isList.typeIs slot_list_getitem.lookup
      (wpAny_getItem_list_neg (Q := fun r s' => r = w ∧ EP X pins σ Q r s') pl.isList (by omega) (by rw [List.size_toArray] <;> omega) (by omega) (by rw [hj]; simpa using ew) ⟨rfl, fin⟩) hs
theorem ix_tup : IxR X (rIxT X.K) := by
  intro value slice pins s σ H x y v u Q I rx ry h hs
  obtain ⟨p, xs, i, z, rfl, rfl, hq, he, q⟩ := h
  cases rx
  obtain ⟨t, rfl⟩ := ry
  obtain ⟨its, r, pl, hz⟩ := I.tuple hq
  obtain ⟨j, h1, h2, h3, h4, h5⟩ := atI_get he
  obtain ⟨w, ew, rw'⟩ := r.get h2
  have hl := r.length
  have hn := line63
  have fin : EP X pins σ Q w s := ⟨z, H, I, rw', q⟩
  exact subscriptTail_builtinR (x := w) pl.typeIs slot_tuple_getitem.lookup
    (getItem_tuple (j := j) (Q := fun r s' => r = w ∧ EP X pins σ Q r s') pl (by omega) (by omega) (by rw [List.size_toArray, ← hl]; exact h1) (by simpa using ew) ⟨rfl, fin⟩) hs
theorem ix_str : IxR X rIxS := by
  intro value slice pins s σ H x y v u Q I rx ry h hs
  obtain ⟨z, i, c, rfl, rfl, hz, he, q⟩ := h
  obtain ⟨t, rfl⟩ := rx
  obtain ⟨t', rfl⟩ := ry
  obtain ⟨j, h1, h2, h3, h4, h5⟩ := atI_get he
  have hl : z.cps.toList.length = z.length := by simp [Str.length]
  rw [hl] at h1 h4 h5
  have hn := line63
  exact tail_any (typeIs_str s z t) slot_str_getitem.lookup (getItem_str (c := c) (by
    have e1 : decide (i < -(2 ^ 63 : Int)) = false := decide_eq_false (by omega)
    have e2 : decide (i ≥ 2 ^ 63) = false := decide_eq_false (by omega)
    rw [e1, e2, Bool.or_false]) (by rw [h1]; simpa using h2) ⟨.str ⟨#[c]⟩, H, I.tok _, ⟨_, rfl⟩, q⟩) hs

/-! ### xs[i] = v, any sign -/
/-- the list's object behind a store -/
theorem mapSeq_set (its : List Value) (n j : Nat) (u : Value) : Obj.mapSeq (·.setIfInBounds j u) { cls := .type "list", data := .seq its.toArray n } = { cls := .type "list", data := .seq (its.set j u).toArray n } := by
  simp [Obj.mapSeq]
theorem Inv.lst {pins : List (Addr × Obj)} {σ : St} {H : Hp} {s : Shared} {p : Addr} {xs : List V} (I : Inv X pins σ H s) (h : H p = some (.lst xs)) :
    ∃ (its : List Value) (n : Nat), Vals xs its ∧ s.heap.get? p = some { cls := .type "list", data := .seq its.toArray n } ∧ xs.length ≤ sizeLine := by
  obtain ⟨z, its, n, r, e⟩ := I.hok p _ h
  exact ⟨its, n, r, e, z⟩
/-- the list at p is written by an update of its object -/
theorem Inv.lstUpd {pins : List (Addr × Obj)} {σ : St} {H : Hp} {s : Shared} {p : Addr} {xs ys : List V} {its its' : List Value} {n n' : Nat} {f : Obj → Obj} (I : Inv X pins σ H s) (h : H p = some (.lst xs))
    (ho : s.heap.get? p = some { cls := .type "list", data := .seq its.toArray n }) (hf : f { cls := .type "list", data := .seq its.toArray n } = { cls := .type "list", data := .seq its'.toArray n' }) (r : Vals ys its') (hz : ys.length ≤ sizeLine) (t : Nat) :
    Inv X pins σ (upd H p (.lst ys)) { s with heap := s.heap.update p f, toks := t } := by
  have e : (s.heap.update p f).get? p = some { cls := .type "list", data := .seq its'.toArray n' } := by
    rw [Heap.get?_update_self f ho (by rw [hf] <;> rfl), hf]
  refine I.write (x := p) (e := p) (by rw [h]; trivial) (.inl rfl) (fun b u hb q => (Heap.get?_update_other _ _ (Ne.symm hb)).trans q) ⟨_, e⟩ ?_
  exact ⟨hz, its', n', r, e⟩
def rSetL : V → V → V → Hp → (Hp → Prop) → Prop := fun o i v H Q => ∃ p xs k j, o = .ref p ∧ i = .int k ∧ H p = some (.lst xs) ∧ ixN xs.length k = some j ∧ Q (upd H p (.lst (xs.set j v)))
theorem set_list : PSet X rSetL := by
  intro pins s σ H o i v ov iv u Q I ro ri rv h
  obtain ⟨p, xs, k, j, rfl, rfl, hp, hj, q⟩ := h
  cases ro
  obtain ⟨t, rfl⟩ := ri
  obtain ⟨its, n, r, ho, hz⟩ := I.lst hp
  obtain ⟨h1, h2, h3, h4⟩ := ixN_seq hj
  have hl := r.length
  have hn := line63
  have I' : Inv X pins σ (upd H p (.lst (xs.set j v))) { s with heap := s.heap.update p (Obj.mapSeq (·.setIfInBounds j u)) } :=
    I.lstUpd hp ho (mapSeq_set its n j u) (r.set rv j) (by rw [List.length_set]; exact hz) s.toks
  by_cases h0 : 0 ≤ k
  · have hk : k.toNat = j := by
      rw [seqIndex_of h0 h4] at h1
      exact Option.some.inj h1
    exact PySem.W.ki_setAt ho h0 (by omega) (by rw [List.size_toArray, ← hl]; exact h4) (by rw [hk]; exact ⟨_, I', q⟩)
  · have hk : (k + (its.toArray.size : Int)).toNat = j := by
      rw [seqIndex_neg (by omega) h3] at h1
      rw [List.size_toArray, ← hl]
      exact Option.some.inj h1
    exact PySem.W.ki_setBack ho (by omega) (by rw [List.size_toArray, ← hl]; exact h3) (by omega) (by rw [hk]; exact ⟨_, I', q⟩)

/-! ### slices -/
theorem slice_bounds (lo hi : Option Int) (n : Nat) : (sliceBounds lo hi none n).1 = ((HT.sIx n 0 lo : Nat) : Int) ∧ (sliceBounds lo hi none n).2.1 = ((HT.sIx n n hi : Nat) : Int) ∧ (sliceBounds lo hi none n).2.2 = 1 := by
  refine ⟨?_, ?_, rfl⟩
  · cases lo with
    | none => simp [sliceBounds, HT.sIx]
    | some i =>
      simp only [sliceBounds, HT.sIx, Option.getD_none, show (1 : Int) > 0 by decide, if_true]
      by_cases h : i < 0
      · simp only [h, if_true] <;> omega
      · simp only [h, if_false] <;> omega
  · cases hi with
    | none => simp [sliceBounds, HT.sIx]
    | some i =>
      simp only [sliceBounds, HT.sIx, Option.getD_none, show (1 : Int) > 0 by decide, if_true]
      by_cases h : i < 0
      · simp only [h, if_true] <;> omega
      · simp only [h, if_false] <;> omega
theorem slicePick_cut (its : List Value) (lo hi : Option Int) : slicePick its.toArray lo hi none = ((its.drop (HT.sIx its.length 0 lo)).take (HT.sIx its.length its.length hi - HT.sIx its.length 0 lo)).toArray := by
  obtain ⟨h1, h2, h3⟩ := slice_bounds lo hi its.toArray.size
  unfold slicePick
  rw [h1, h2, h3]
  simp only [sliceRange_one, pick_run, List.size_toArray] <;> rfl
/-- xs[lo:hi] of a list: a new list -/
def rSlL (K : PySem.W.Frag) : V → Option Int → Option Int → Hp → VK → Prop := fun x lo hi H Q => ∃ a xs, x = .ref a ∧ SqL K H a xs ∧ ∀ p, H p = none → Q (.ref p) (upd H p (.lst (cutV xs lo hi)))
theorem sl_list : SlR X (rSlL X.K) := by
  intro pins s σ H x v vl vu lo hi sl Q I rx hs pl pu h
  obtain ⟨a, xs, rfl, hx, q⟩ := h
  cases rx
  obtain ⟨its, r, ht, hz⟩ := I.list hx
  have hlen := r.length
  refine ⟨"list", _, slot_list_getitem.lookup, ht.isList.typeIs, ?_⟩
  refine wpAny_getItem_list_slice ht.isList hs pl pu .none (by simp) ?_ (by rw [List.size_toArray] <;> omega)
  rw [slicePick_cut, ← hlen]
  refine ⟨.ref s.heap.objs.size, _, I.laid (t' := s.toks) (o := .lst (cutV xs lo hi)) (fun b ob q => Heap.get?_push_of_some _ q) (Nat.le_refl _) ?_, rfl, q _ (I.hok.fresh (Nat.le_refl _))⟩
  exact ⟨Nat.le_trans (cutV_length xs lo hi) hz, _, 0, (r.drop (HT.sIx xs.length 0 lo)).take (HT.sIx xs.length xs.length hi - HT.sIx xs.length 0 lo), Heap.get?_push_size _ rfl⟩

/-! ### in, not in: flat items -/
def flatV : V → Bool
  | .non => true
  | .bl _ => true
  | .int _ => true
  | .str _ => true
  | _ => false
/-- == of flat values -/
def eqV : V → V → Bool
  | .non, .non => true
  | .bl a, .bl b => a == b
  | .bl a, .int b => (if a then 1 else 0) == b
  | .int a, .bl b => a == (if b then 1 else 0)
  | .int a, .int b => a == b
  | .str a, .str b => a == b
  | _, _ => false
theorem eqAt_V {A : Around} {s : Shared} {y x : V} {u v : Value} (ry : RelV y u) (rx : RelV x v) (fy : flatV y = true) (fx : flatV x = true) : SeqAt.EqAt A s u v (eqV y x) := by
  cases y with
  | non =>
    cases ry
    cases x with
    | non => cases rx; exact SeqAt.EqAt.same _
    | bl b => cases rx; exact SeqAt.EqAt.none_bool b
    | int b => obtain ⟨t, rfl⟩ := rx; exact SeqAt.EqAt.none_int b t
    | str b => obtain ⟨t, rfl⟩ := rx; exact SeqAt.EqAt.none_str b t
    | _ => exact absurd (show false = true from fx) Bool.false_ne_true
  | bl a =>
    cases ry
    cases x with
    | non => cases rx; exact SeqAt.EqAt.bool_none a
    | bl b => cases rx; exact SeqAt.EqAt.bool_bool a b
    | int b => obtain ⟨t, rfl⟩ := rx; exact SeqAt.EqAt.bool_int a b t
    | str b => obtain ⟨t, rfl⟩ := rx; exact SeqAt.EqAt.bool_str a b t
    | _ => exact absurd (show false = true from fx) Bool.false_ne_true
  | int a =>
    obtain ⟨t', rfl⟩ := ry
    cases x with
    | non => cases rx; exact SeqAt.EqAt.int_none a t'
    | bl b => cases rx; exact SeqAt.EqAt.int_bool a t' b
    | int b => obtain ⟨t, rfl⟩ := rx; exact SeqAt.EqAt.int_int a t' b t
    | str b => obtain ⟨t, rfl⟩ := rx; exact SeqAt.EqAt.int_str a t' b t
    | _ => exact absurd (show false = true from fx) Bool.false_ne_true
  | str a =>
    obtain ⟨t', rfl⟩ := ry
    cases x with
    | non => cases rx; exact SeqAt.EqAt.str_none a t'
    | bl b => cases rx; exact SeqAt.EqAt.str_bool a t' b
    | int b => obtain ⟨t, rfl⟩ := rx; exact SeqAt.EqAt.str_int a t' b t
    | str b => obtain ⟨t, rfl⟩ := rx; exact SeqAt.EqAt.str_str a t' b t
    | _ => exact absurd (show false = true from fx) Bool.false_ne_true
  | _ => exact absurd (show false = true from fy) Bool.false_ne_true
/-- the items' answers, read off the values (a value's own answer does not lean on its token) -/
def eqU (x : V) (u : Value) : Bool := match u with
  | .none => eqV .non x
  | .bool b => eqV (.bl b) x
  | .int i _ => eqV (.int i) x
  | .str z _ => eqV (.str z) x
  | _ => false
theorem eqU_of {x y : V} {u : Value} (r : RelV y u) (f : flatV y = true) : eqU x u = eqV y x := by
  cases y with
  | non => cases r; rfl
  | bl b => cases r; rfl
  | int i => obtain ⟨t, rfl⟩ := r; rfl
  | str z => obtain ⟨t, rfl⟩ := r; rfl
  | _ => exact absurd (show false = true from f) Bool.false_ne_true
theorem any_eqU {x : V} : ∀ {xs : List V} {us : List Value}, Vals xs us → xs.all flatV = true → us.any (eqU x) = xs.any fun y => eqV y x
  | _, _, .nil, _ => rfl
  | y :: xs, u :: us, .cons r t, f => by
    rw [List.all_cons, Bool.and_eq_true] at f
    rw [List.any_cons, List.any_cons, eqU_of r f.1, any_eqU t f.2]
theorem mem_eqAt {A : Around} {s : Shared} {x : V} {v : Value} (rx : RelV x v) (fx : flatV x = true) : ∀ {xs : List V} {us : List Value}, Vals xs us → xs.all flatV = true → ∀ u ∈ us, SeqAt.EqAt A s u v (eqU x u)
  | _, _, .nil, _ => fun u hu => by cases hu
  | y :: xs, u :: us, .cons r t, f => fun u' hu => by
    rw [List.all_cons, Bool.and_eq_true] at f
    rcases List.mem_cons.mp hu with rfl | hu
    · rw [eqU_of r f.1]; exact eqAt_V r rx f.1 fx
    · exact mem_eqAt rx fx t f.2 u' hu
def inV (x : V) (xs : List V) : Bool := xs.any fun y => eqV y x
/-- x in a list or tuple of flat items -/
def rIn (K : PySem.W.Frag) (neg : Bool) : R2 := fun x y H Q => ∃ p xs, y = .ref p ∧ (SqL K H p xs ∨ SqT K H p xs) ∧ flatV x = true ∧ xs.all flatV = true ∧ Q (.bl (if neg then !inV x xs else inV x xs)) H
theorem op_in_seq : OpR X (compareOp .In) (rIn X.K false) := by
  intro pins s σ H x y v u Q I rx ry h
  obtain ⟨p, xs, rfl, hq, fx, fs, q⟩ := h
  cases ry
  rcases hq with hq | hq
  · obtain ⟨its, r, pl, hz⟩ := I.list hq
    refine SeqAt.in_listAt (eqU x) pl.isList (fun w hw => mem_eqAt rx fx r fs w (by simpa using hw)) ⟨.bl _, H, I, rfl, ?_⟩
    rw [show its.toArray.any (eqU x) = its.any (eqU x) by simp, any_eqU r fs]
    exact q
  · obtain ⟨its, r, pl, hz⟩ := I.tuple hq
    refine SeqAt.in_tupleAt (eqU x) pl (fun w hw => mem_eqAt rx fx r fs w (by simpa using hw)) ⟨.bl _, H, I, rfl, ?_⟩
    rw [show its.toArray.any (eqU x) = its.any (eqU x) by simp, any_eqU r fs]
    exact q
theorem op_notIn_seq : OpR X (compareOp .NotIn) (rIn X.K true) := by
  intro pins s σ H x y v u Q I rx ry h
  obtain ⟨p, xs, rfl, hq, fx, fs, q⟩ := h
  cases ry
  rcases hq with hq | hq
  · obtain ⟨its, r, pl, hz⟩ := I.list hq
    refine SeqAt.notIn_listAt (eqU x) pl.isList (fun w hw => mem_eqAt rx fx r fs w (by simpa using hw)) ⟨.bl _, H, I, rfl, ?_⟩
    rw [show its.toArray.any (eqU x) = its.any (eqU x) by simp, any_eqU r fs]
    exact q
  · obtain ⟨its, r, pl, hz⟩ := I.tuple hq
    refine SeqAt.notIn_tupleAt (eqU x) pl (fun w hw => mem_eqAt rx fx r fs w (by simpa using hw)) ⟨.bl _, H, I, rfl, ?_⟩
    rw [show its.toArray.any (eqU x) = its.any (eqU x) by simp, any_eqU r fs]
    exact q
theorem op_notIn_str : OpR X (compareOp .NotIn) (fun x y H Q => ∃ i j, x = .str i ∧ y = .str j ∧ Q (.bl (!(!(Builtin.Str.occurrences j i 0 j.length 1).isEmpty))) H) := by
  intro pins s σ H x y v u Q I rx ry h
  obtain ⟨i, j, rfl, rfl, q⟩ := h
  obtain ⟨t, rfl⟩ := rx
  obtain ⟨t', rfl⟩ := ry
  exact notIn_str ⟨.bl _, H, I, rfl, q⟩

/-! ### len, list(x), tuple(x) of any list or tuple that is read -/
theorem call_len_seq : CallR X (.builtin "len") (fun xs H Q => ∃ p ys, xs = [.ref p] ∧ (SqL X.K H p ys ∨ SqT X.K H p ys) ∧ Q (.int ys.length) H) := by
  intro pins s σ H xs us Q I r h
  obtain ⟨p, ys, rfl, hq, q⟩ := h
  obtain ⟨u, rfl, rx⟩ := vals1 r
  cases rx
  have hn := line63
  rcases hq with hq | hq
  · obtain ⟨its, r', pl, hz⟩ := I.list hq
    have hlen := r'.length
    exact Calls.call_len_list pl.isList (by simp only [List.size_toArray] <;> omega) ⟨.int ys.length, H, I.tok _, ⟨s.toks + 1, by rw [List.size_toArray, hlen]⟩, q⟩
  · obtain ⟨its, r', pl, hz⟩ := I.tuple hq
    have hlen := r'.length
    exact len_tuple pl (by simp only [List.size_toArray] <;> omega) ⟨.int ys.length, H, I.tok _, ⟨s.toks + 1, by rw [List.size_toArray, hlen]⟩, q⟩
theorem call_len_str : CallR X (.builtin "len") (fun xs H Q => ∃ z, xs = [.str z] ∧ z.length ≤ sizeLine ∧ Q (.int z.length) H) := by
  intro pins s σ H xs us Q I r h
  obtain ⟨z, rfl, hz, q⟩ := h
  obtain ⟨u, rfl, t, rfl⟩ := vals1 r
  have hn := line63
  exact len_str (by omega) ⟨.int z.length, H, I.tok _, ⟨_, rfl⟩, q⟩
theorem call_list_of : CallR X (.type "list") (fun xs H Q => ∃ p ys, xs = [.ref p] ∧ (SqL X.K H p ys ∨ SqT X.K H p ys) ∧ ∀ l, H l = none → Q (.ref l) (upd H l (.lst ys))) := by
  intro pins s σ H xs us Q I r h
  obtain ⟨p, ys, rfl, hq, q⟩ := h
  obtain ⟨u, rfl, rx⟩ := vals1 r
  cases rx
  have fin : ∀ (its : List Value), Vals ys its → ys.length ≤ sizeLine → ∀ (h' : Heap) (c' : Nat), (∀ b o', s.heap.get? b = some o' → h'.get? b = some o') →
      h'.get? s.heap.objs.size = some { cls := .type "list", dict := none, data := .seq its.toArray c', slots := #[] } → EP X pins σ Q (.ref s.heap.objs.size) { s with heap := h' } := fun its r' hz h' c' kp e =>
    ⟨.ref s.heap.objs.size, _, I.laid (t' := s.toks) kp (Nat.le_refl _) (show ObjOk X.prog X.w _ h' _ (.lst ys) from ⟨hz, its, c', r', e⟩), rfl, q _ (I.hok.fresh (Nat.le_refl _))⟩
  rcases hq with hq | hq
  · obtain ⟨its, r', pl, hz⟩ := I.list hq
    have hlen := r'.length
    obtain ⟨o, ho, hc, n, hd⟩ := pl.isList
    exact call_list_seq p (.inl rfl) ho hc hd (fun h' c' kp e => fin its r' hz h' c' kp e) (by simp only [List.size_toArray] <;> omega)
  · obtain ⟨its, r', pl, hz⟩ := I.tuple hq
    have hlen := r'.length
    obtain ⟨o, ho, hc, n, hd⟩ := pl
    exact call_list_seq p (.inr rfl) ho hc hd (fun h' c' kp e => fin its r' hz h' c' kp e) (by simp only [List.size_toArray] <;> omega)
theorem call_tuple_of : CallR X (.type "tuple") (fun xs H Q => ∃ p ys, xs = [.ref p] ∧ ((SqL X.K H p ys ∧ ∀ l, H l = none → Q (.ref l) (upd H l (.tup ys))) ∨ (SqT X.K H p ys ∧ Q (.ref p) H))) := by
  intro pins s σ H xs us Q I r h
  obtain ⟨p, ys, rfl, h⟩ := h
  obtain ⟨u, rfl, rx⟩ := vals1 r
  cases rx
  rcases h with ⟨hq, q⟩ | ⟨hq, q⟩
  · obtain ⟨its, r', pl, hz⟩ := I.list hq
    have hlen := r'.length
    refine call_tuple_list pl.isList (fun h' kp => ?_) (by simp only [List.size_toArray] <;> omega)
    have I1 : Inv X pins σ H { s with heap := h' } := I.kept (t' := s.toks) kp
    have I2 : Inv X pins σ (upd H h'.objs.size (.tup ys)) { s with heap := h'.push { cls := .type "tuple", data := .seq its.toArray } } :=
      I1.laid (t' := s.toks) (fun b o e => Heap.get?_push_of_some _ e) (Nat.le_refl _) (show ObjOk X.prog X.w _ _ _ (.tup ys) from ⟨hz, its, r', IsTup.new _ _⟩)
    exact ⟨.ref h'.objs.size, _, I2, rfl, q _ (I1.hok.fresh (Nat.le_refl _))⟩
  · obtain ⟨its, r', pl, hz⟩ := I.tuple hq
    exact call_tuple_same pl ⟨.ref p, H, I, rfl, q⟩

/-! ### the call of a builtin's method: o.m(..) -/
/-- the value is of that builtin type -/
def tyV (K : PySem.W.Frag) (T : String) (x : V) (H : Hp) : Prop := match x with
  | .str _ => T = "str"
  | .int _ => T = "int"
  | .ref p => (T = "list" ∧ ∃ xs, SqL K H p xs) ∨ (T = "tuple" ∧ ∃ o, K.lookup p = some o ∧ o.cls = .type "tuple" ∧ o.dict = none) ∨
      (T = "dict" ∧ ((∃ kvs, H p = some (.dK kvs)) ∨ ∃ kvs, H p = some (.dT kvs))) ∨ (T = "set" ∧ ∃ S n, H p = some (.set S n))
  | _ => False
theorem tyV_is {pins : List (Addr × Obj)} {σ : St} {H : Hp} {s : Shared} {T : String} {x : V} {v : Value} (I : Inv X pins σ H s) (r : RelV x v) (ty : tyV X.K T x H) :
    s.TypeIs v T ∧ ∀ a, v = .ref a → ∃ ob, s.heap.get? a = some ob ∧ ob.dict = none := by
  cases x with
  | str z =>
    obtain ⟨t, rfl⟩ := r
    cases (show T = "str" from ty)
    exact ⟨typeIs_str s z t, fun _ e => nomatch e⟩
  | int i =>
    obtain ⟨t, rfl⟩ := r
    cases (show T = "int" from ty)
    exact ⟨typeIs_int s i t, fun _ e => nomatch e⟩
  | ref p =>
    cases r
    rcases ty with ⟨rfl, xs, hq⟩ | ⟨rfl, o, hk, hc, hd⟩ | ⟨rfl, hk⟩ | ⟨rfl, S, n, hk⟩
    · obtain ⟨its, _, pl, _⟩ := I.list hq
      refine ⟨pl.isList.typeIs, fun a e => ?_⟩
      cases e
      obtain ⟨o, n, e, c, hd, _⟩ := pl
      exact ⟨o, e, hd⟩
    · refine ⟨⟨o, I.kIn p o hk, hc⟩, fun a e => ?_⟩
      cases e
      exact ⟨o, I.kIn _ o hk, hd⟩
    · have z : ∃ o, s.heap.get? p = some o ∧ o.ExactDict := by
        rcases hk with ⟨kvs, hk⟩ | ⟨kvs, hk⟩
        · obtain ⟨_, _, _, _, o, _, _, e, ex, _⟩ := I.hok p _ hk
          exact ⟨o, e, ex⟩
        · obtain ⟨_, _, _, _, o, _, _, e, ex, _⟩ := I.hok p _ hk
          exact ⟨o, e, ex⟩
      obtain ⟨o, e, ex⟩ := z
      refine ⟨⟨o, e, ex.1⟩, fun a e2 => ?_⟩
      cases e2
      exact ⟨o, e, ex.2.1⟩
    · obtain ⟨o, _, _, _, e, ex, _⟩ := I.hok p _ hk
      refine ⟨⟨o, e, ex.1⟩, fun a e2 => ?_⟩
      cases e2
      exact ⟨o, e, ex.2.1⟩
  | _ => exact False.elim ty
def tBM0 (K : PySem.W.Frag) (T : String) (r : V → List V → Hp → VK → Prop) (to : TE) : TE := fun σ H Q => to σ H fun x H1 => tyV K T x H1 ∧ r x [] H1 Q
def tBM (K : PySem.W.Frag) (T : String) (r : V → List V → Hp → VK → Prop) (to : TE) (t : TA) : TE := fun σ H Q => to σ H fun x H1 => tyV K T x H1 ∧ t σ H1 fun xs H2 => r x xs H2 Q
variable {o e : Expr} {es : List Expr} {to : TE} {t : TA} {name : Str} {apos cpos : Pos} {T id : String} {r : V → List V → Hp → VK → Prop}
theorem pe_bm0 (pa : PlainAttrs T) (slot : Slot T name id) (hty : typeOf (.builtin id) = pure (.type "method_descriptor")) (hm : MtR X id r) (ho : PE X o to)
    (hbase : attributeBase o name X.env (eval o X.env) = eval o X.env := by rfl) (hline : (apos.endLine == cpos.line) = true := by rfl) : PE X (.Call (.Attribute o name apos) [] [] cpos) (tBM0 X.K T r to) := by
  intro pins s σ H Q I h
  refine wpAny_Call_method0_late hbase hline (thn (ho pins s σ H _ I h) fun v s1 ⟨x, H1, I1, r1, ty, q1⟩ => ?_)
  obtain ⟨h1, h2⟩ := tyV_is I1 r1 ty
  exact ⟨T, id, pa, slot, hty, h1, h2, Calls.callWith_builtin rfl (PySem.evalArgs_none (hm pins s1 σ H1 x [] v [] Q I1 r1 .nil q1))⟩
theorem pe_bm (pa : PlainAttrs T) (slot : Slot T name id) (hty : typeOf (.builtin id) = pure (.type "method_descriptor")) (hm : MtR X id r) (ho : PE X o to) (ha : PA X (e :: es) t)
    (hbase : attributeBase o name X.env (eval o X.env) = eval o X.env := by rfl)
    (hfew : ((backTo cpos (starEach (e :: es) X.env)).all (fun x => !x.1) && (backToKw cpos (keywordEach [] X.env)).all (fun x => x.1.isSome)
      && decide ((e :: es).length + ([] : List Keyword).length + (if ([] : List Keyword).isEmpty then 0 else 1) < 30)) = true := by rfl)
    (hline : (apos.endLine == cpos.line) = true := by rfl) (hs : starEach (e :: es) X.env = (false, eval e X.env) :: starEach es X.env := by rfl) (hplain : (backTo cpos (starEach es X.env)).any (·.1) = false := by rfl) :
    PE X (.Call (.Attribute o name apos) (e :: es) [] cpos) (tBM X.K T r to t) := by
  intro pins s σ H Q I h
  refine wpAny_Call_method_late hbase hfew hline rfl (thn (ho pins s σ H _ I h) fun v s1 ⟨x, H1, I1, r1, ty, q1⟩ => ?_)
  obtain ⟨h1, h2⟩ := tyV_is I1 r1 ty
  refine ⟨T, id, pa, slot, hty, h1, h2, ?_⟩
  have hA := ha cpos pins s1 σ H1 _ I1 q1
  rw [hs] at hA ⊢
  refine Calls.callWith_builtin (by show (false || (backTo cpos (starEach es X.env)).any (·.1)) = false; rw [hplain] <;> rfl) (Calls.evalArgs_plain ?_)
  exact thn hA fun us s2 ⟨vs, H2, I2, r2, q2⟩ => hm pins s2 σ H2 x vs v us Q I2 r1 r2 q2
/- xs.append(e), list.index on a module's tuple .. are MtR facts of 06m -/
end
end L2

namespace L2
open PySem PySem.Spec PyProof.Rows

def MtM (X : Cx) (id : String) (r : V → List V → Hp → VK → Prop) : Prop :=
  ∀ (pins : List (Addr × Obj)) (s : Shared) (σ : St) (H : Hp) (x : V) (xs : List V) (v : Value) (us : List Value) (Q : VK), Inv X pins σ H s → RelV x v → Vals xs us → r x xs H Q →
    wpAny (model X.prog X.w) X.A (call (.builtin id) (v :: us)) (EP X pins σ Q) X.xe s

/-! ### lists of values -/
theorem Vals.one : ∀ {x : V} {us : List Value}, Vals [x] us → ∃ u, us = [u] ∧ RelV x u
  | _, _, .cons r .nil => ⟨_, rfl, r⟩
theorem Vals.zero : ∀ {us : List Value}, Vals [] us → us = []
  | _, .nil => rfl
theorem Vals.dropLast {xs : List V} {us : List Value} (h : Vals xs us) : Vals xs.dropLast us.dropLast := by
  induction h with
  | nil => exact .nil
  | cons r t ih =>
    cases t with
    | nil => exact .nil
    | cons q t' => exact .cons r ih
theorem Vals.eraseIdx : ∀ {xs : List V} {us : List Value} (i : Nat), Vals xs us → Vals (xs.eraseIdx i) (us.eraseIdx i)
  | _, _, _, .nil => .nil
  | _, _, 0, .cons _ t => t
  | _, _, i + 1, .cons r t => .cons r (Vals.eraseIdx i t)
theorem Vals.rep {xs : List V} {us : List Value} (h : Vals xs us) : ∀ k : Nat, Vals (List.replicate k xs).flatten (List.replicate k us).flatten
  | 0 => .nil
  | k + 1 => by
    rw [List.replicate_succ, List.replicate_succ, List.flatten_cons, List.flatten_cons]
    exact Vals.append h (Vals.rep h k)
theorem erase_last {α : Type} (l : List α) : l.eraseIdx (l.length - 1) = l.dropLast := by
  induction l with
  | nil => rfl
  | cons a r ih =>
    cases r with
    | nil => rfl
    | cons b r =>
      have e : (a :: b :: r).length - 1 = ((b :: r).length - 1) + 1 := by
        have h1 : (a :: b :: r).length = r.length + 2 := rfl
        have h2 : (b :: r).length = r.length + 1 := rfl
        omega
      rw [e, List.eraseIdx_cons_succ, ih]
      all_goals rfl
theorem len_erase {α : Type} : ∀ (l : List α) (i : Nat), (l.eraseIdx i).length ≤ l.length
  | [], _ => Nat.le_refl _
  | _ :: _, 0 => Nat.le_succ _
  | _ :: r, i + 1 => Nat.succ_le_succ (len_erase r i)
theorem foldl_rep (its : List Value) : ∀ (k : Nat) (acc : List Value),
    List.foldl (fun x1 x2 => x1 ++ x2) acc.toArray (List.replicate k its.toArray) = (acc ++ (List.replicate k its).flatten).toArray
  | 0, acc => by simp
  | k + 1, acc => by
    have e : acc.toArray ++ its.toArray = (acc ++ its).toArray := by simp
    have e2 : (acc ++ its) ++ (List.replicate k its).flatten = acc ++ (List.replicate (k + 1) its).flatten := by
      rw [List.replicate_succ, List.flatten_cons, List.append_assoc]
    rw [← e2, ← foldl_rep its k (acc ++ its), ← e, List.replicate_succ, List.foldl_cons]

section
variable {X : Cx} {pins : List (Addr × Obj)} {σ : St} {H : Hp} {s : Shared} {l b : Addr} {xs ys zs : List V}

/-! ### the two steps: a tracked list is rewritten, a new list is laid -/
theorem Inv.lset {its its' : List Value} {n : Nat} {f : Array Value → Array Value} {t' : Nat} (I : Inv X pins σ H s) (hH : H l = some (.lst xs))
    (e : s.heap.get? l = some { cls := .type "list", data := .seq its.toArray n }) (hf : f its.toArray = its'.toArray) (hv : Vals ys its') (hz : ys.length ≤ sizeLine) :
    Inv X pins σ (upd H l (.lst ys)) { s with heap := s.heap.update l (Obj.mapSeq f), toks := t' } := by
  have q := PySem.IsL.update e f
  rw [hf] at q
  refine I.write (x := l) (e := l) (by rw [hH]; exact trivial) (.inl rfl) (fun b' u hb hu => (Heap.get?_update_other s.heap (Obj.mapSeq f) (Ne.symm hb)).trans hu) ⟨_, q⟩ ?_
  exact ⟨hz, its', _, hv, q⟩
theorem Inv.lnew {its : List Value} {t' : Nat} (I : Inv X pins σ H s) (hv : Vals ys its) (hz : ys.length ≤ sizeLine) :
    Inv X pins σ (upd H s.heap.objs.size (.lst ys)) { s with heap := s.heap.push { cls := .type "list", data := .seq its.toArray }, toks := t' } :=
  I.laid (fun _ _ q => Heap.get?_push_of_some _ q) (Nat.le_refl _) ⟨hz, its, 0, hv, Heap.get?_push_size _ rfl⟩
theorem Inv.fresh (I : Inv X pins σ H s) : H s.heap.objs.size = none := I.hok.fresh (Nat.le_refl _)
theorem Inv.lstM (I : Inv X pins σ H s) (hH : H l = some (.lst xs)) : xs.length ≤ sizeLine ∧ ∃ (its : List Value) (n : Nat), Vals xs its ∧ xs.length = its.length ∧ s.heap.get? l = some { cls := .type "list", data := .seq its.toArray n } := by
  obtain ⟨z, its, n, r, e⟩ := I.hok l _ hH
  exact ⟨z, its, n, r, r.length, e⟩

theorem notLongL {n : Nat} (h : n ≤ sizeLine) : Builtin.List.listTooLong n = false := by
  unfold Builtin.List.listTooLong
  exact decide_eq_false (by omega)
end

section
variable {X : Cx}

/-! ### methods -/


def rPop : V → List V → Hp → VK → Prop := fun x vs H Q => ∃ l xs y, x = .ref l ∧ vs = [] ∧ H l = some (.lst xs) ∧ xs[xs.length - 1]? = some y ∧ Q y (upd H l (.lst xs.dropLast))
theorem mt_pop : MtM X "list.pop" rPop := by
  intro pins s σ H x vs v us Q I rx rv h
  obtain ⟨l, xs, y, rfl, rfl, hH, hy, q⟩ := h
  cases rx
  have hus := rv.zero
  subst hus
  obtain ⟨z, its, n, r, hl, e⟩ := I.lstM hH
  obtain ⟨u, hu, ru⟩ := r.get hy
  have hy' : its.toArray[its.toArray.size - 1]? = some u := by
    show its.toArray[its.length - 1]? = some u
    rw [← Array.getElem?_toList, ← hl]
    exact hu
  refine call_meets F.slot_list_pop ⟨_, e, rfl⟩ F.entry_list_pop (F.args_list_pop_1 _) (MeetsSeq.list_pop_last l its.toArray n u hy' (by rw [List.size_toArray]; omega)) ⟨e, ?_⟩
  refine ⟨y, _, I.lset (its' := its.dropLast) hH e ?_ r.dropLast ?_, ru, q⟩
  · show its.toArray.eraseIdxIfInBounds (its.toArray.size - 1) = its.dropLast.toArray
    rw [List.size_toArray, List.eraseIdxIfInBounds_toArray, erase_last]
  · rw [List.length_dropLast]
    omega

def rPopAt : V → List V → Hp → VK → Prop := fun x vs H Q => ∃ l xs i k y, x = .ref l ∧ vs = [.int i] ∧ H l = some (.lst xs) ∧ -(2 ^ 63) ≤ i ∧ i < 2 ^ 63 ∧ seqIndex? i xs.length = some k ∧ xs[k]? = some y ∧ Q y (upd H l (.lst (xs.eraseIdx k)))
theorem mt_popAt : MtM X "list.pop" rPopAt := by
  intro pins s σ H x vs v us Q I rx rv h
  obtain ⟨l, xs, i, k, y, rfl, rfl, hH, h1, h2, hk, hy, q⟩ := h
  cases rx
  obtain ⟨u, rfl, ru⟩ := rv.one
  obtain ⟨t, rfl⟩ := ru
  obtain ⟨z, its, n, r, hl, e⟩ := I.lstM hH
  obtain ⟨w, hw, rw'⟩ := r.get hy
  refine call_meets F.slot_list_pop ⟨_, e, rfl⟩ F.entry_list_pop (F.args_list_pop_2 _ _)
    (MeetsSeq.list_pop_at l its.toArray n i t k w (fitsIndex_both h1 h2) (by rw [List.size_toArray, ← hl]; exact hk) (by rw [← Array.getElem?_toList]; exact hw) (by rw [List.size_toArray]; omega)) ⟨e, ?_⟩
  refine ⟨y, _, I.lset (its' := its.eraseIdx k) hH e ?_ (r.eraseIdx k) ?_, rw', q⟩
  · show its.toArray.eraseIdxIfInBounds k = (its.eraseIdx k).toArray
    rw [List.eraseIdxIfInBounds_toArray]
  · have := len_erase xs k
    omega



/-! ### list + list, list += list, list * int -/
def rCat : R2 := fun x y H Q => ∃ l b xs zs, x = .ref l ∧ y = .ref b ∧ H l = some (.lst xs) ∧ H b = some (.lst zs) ∧ xs.length + zs.length ≤ sizeLine ∧ ∀ p, H p = none → Q (.ref p) (upd H p (.lst (xs ++ zs)))
theorem op_cat : OpR X (binaryOp .Add) rCat := by
  intro pins s σ H x y v u Q I rx ry h
  obtain ⟨l, b, xs, zs, rfl, rfl, hH, hB, hz, q⟩ := h
  cases rx
  cases ry
  obtain ⟨z, its, n, r, hl, e⟩ := I.lstM hH
  obtain ⟨z2, its2, n2, r2, hl2, e2⟩ := I.lstM hB
  refine PySem.P.add_list e e2 ?_ (by rw [List.size_toArray, List.size_toArray]; omega)
  have ea : its.toArray ++ its2.toArray = (its ++ its2).toArray := by simp
  rw [ea]
  exact ⟨.ref _, _, I.lnew (t' := s.toks) (r.append r2) (by rw [List.length_append]; omega), rfl, q _ I.fresh⟩
theorem len_rep {α : Type} (xs : List α) (k : Nat) : (List.replicate k xs).flatten.length = k * xs.length := by
  induction k with
  | zero => simp
  | succ k ih => rw [List.replicate_succ, List.flatten_cons, List.length_append, ih, Nat.succ_mul, Nat.add_comm]

/-! ### del xs[i] -/
end

/-! ### xs[a:b] = ys -/
section
variable {prog : Program} {w : World} {A : Around} {E : Value → Shared → Prop} {s : Shared}
end

section
variable {X : Cx}
end
end L2

namespace L2
open PySem PySem.Spec PyProof.Rows

/-! ### lists of pairs as tables -/
section
variable {κ : Type} [DecidableEq κ]
def valV (kvs : List (κ × V)) (k : κ) : Option V := (kvs.find? fun kv => decide (kv.1 = k)).map (·.2)
/-- in its place, or at the end -/
def putK (kvs : List (κ × V)) (k : κ) (v : V) : List (κ × V) :=
  if (kvs.any fun kv => decide (kv.1 = k)) = true then kvs.map (fun kv => if kv.1 = k then (kv.1, v) else kv) else kvs ++ [(k, v)]

theorem valV_pos {p : κ × V} {r : List (κ × V)} {k : κ} (e : p.1 = k) : valV (p :: r) k = some p.2 := by simp [valV, List.find?_cons, e]
theorem valV_neg {p : κ × V} {r : List (κ × V)} {k : κ} (e : ¬ p.1 = k) : valV (p :: r) k = valV r k := by simp [valV, List.find?_cons, e]
theorem valV_any (k : κ) : ∀ kvs : List (κ × V), (kvs.any fun kv => decide (kv.1 = k)) = (valV kvs k).isSome
  | [] => rfl
  | p :: r => by
    rw [List.any_cons]
    by_cases e : p.1 = k
    · simp only [valV_pos e, decide_eq_true e, Bool.true_or, Option.isSome_some]
    · rw [valV_neg e, decide_eq_false e, Bool.false_or]; exact valV_any k r
theorem length_putK (kvs : List (κ × V)) (k : κ) (v : V) : (putK kvs k v).length ≤ kvs.length + 1 := by
  unfold putK
  split
  · rw [List.length_map]; omega
  · rw [List.length_append, List.length_cons, List.length_nil]; omega

theorem RelO.isSome_eq {o : Option V} {u : Option Value} (r : RelO o u) : o.isSome = u.isSome := by
  cases o with
  | none => cases u with
    | none => rfl
    | some _ => exact (show False from r).elim
  | some _ => cases u with
    | none => exact (show False from r).elim
    | some _ => rfl
theorem RelO.getD {o : Option V} {u : Option Value} {d : V} {d' : Value} (r : RelO o u) (rd : RelV d d') : RelV (o.getD d) (u.getD d') := by
  cases o with
  | none => cases u with
    | none => exact rd
    | some _ => exact (show False from r).elim
  | some _ => cases u with
    | none => exact (show False from r).elim
    | some _ => exact r

/-- raw tables of the same keys -/
theorem KV.val {kvs : List (κ × V)} {vs : List (κ × Value)} (r : KV kvs vs) (k : κ) : RelO (valV kvs k) (valueAt vs k) := by
  unfold KV at r
  induction r with
  | nil => exact True.intro
  | @cons p q ps qs h t ih =>
    obtain ⟨h1, h2⟩ := h
    by_cases e : p.1 = k
    · have e' : q.1 = k := h1.symm.trans e
      have b : valueAt (q :: qs) k = some q.2 := by simp [valueAt, List.find?_cons, e']
      rw [valV_pos e, b]; exact h2
    · have e' : ¬ q.1 = k := fun z => e (h1.trans z)
      have b : valueAt (q :: qs) k = valueAt qs k := by simp [valueAt, List.find?_cons, e']
      rw [valV_neg e, b]; exact ih
theorem KV.any {kvs : List (κ × V)} {vs : List (κ × Value)} (r : KV kvs vs) (k : κ) : (kvs.any fun kv => decide (kv.1 = k)) = vs.any fun kv => decide (kv.1 = k) := by
  unfold KV at r
  induction r with
  | nil => rfl
  | cons h t ih => rw [List.any_cons, List.any_cons, ih, h.1]
theorem KV.repl {kvs : List (κ × V)} {vs : List (κ × Value)} (r : KV kvs vs) (k : κ) {y : V} {u : Value} (ry : RelV y u) :
    KV (kvs.map fun kv => if kv.1 = k then (kv.1, y) else kv) (vs.map fun kv => if kv.1 = k then (kv.1, u) else kv) := by
  unfold KV at r ⊢
  induction r with
  | nil => exact .nil
  | @cons p q ps qs h t ih =>
    rw [List.map_cons, List.map_cons]
    refine .cons ?_ ih
    obtain ⟨h1, h2⟩ := h
    by_cases e : p.1 = k
    · rw [if_pos e, if_pos (h1.symm.trans e)]; exact ⟨h1, ry⟩
    · rw [if_neg e, if_neg (fun z => e (h1.trans z))]; exact ⟨h1, h2⟩
theorem KV.put {kvs : List (κ × V)} {vs : List (κ × Value)} (r : KV kvs vs) (k : κ) {y : V} {u : Value} (ry : RelV y u) : KV (putK kvs k y) (stored vs k u) := by
  unfold putK stored
  rw [r.any k]
  by_cases e : (vs.any fun kv => decide (kv.1 = k)) = true
  · rw [if_pos e, if_pos e]; exact r.repl k ry
  · rw [if_neg e, if_neg e]; exact Paired.snoc r ⟨rfl, ry⟩
theorem KV.length {kvs : List (κ × V)} {vs : List (κ × Value)} (r : KV kvs vs) : kvs.length = vs.length := Paired.length r
end


/-! ### a tracked dict, its keys ints and texts or tuples of these -/
theorem kV_is {P : Program} {w : World} {k : Key} {u : Value} (r : RelV (kV k) u) : (mixKind P w).is k u = true := by
  cases k with
  | inl i => obtain ⟨t, e⟩ := (show ∃ t, u = Value.int i t from r); subst e; exact mixKind_int P w i t
  | inr x => obtain ⟨t, e⟩ := (show ∃ t, u = Value.str x t from r); subst e; exact mixKind_str P w x t
theorem items_are {P : Program} {w : World} : ∀ {ks : List Key} {us : List Value}, Vals (ks.map kV) us → ItemsAre (mixKind P w) ks us
  | [], _, r => by rw [List.map_nil] at r; cases r; exact .nil
  | k :: ks, _, r => by
    rw [List.map_cons] at r
    cases r with
    | cons h t => exact .cons (kV_is h) (items_are t)

/-- raw entries of a dict with tuple keys -/
abbrev KT (H : Hp) : List (List Key × V) → List (List Key × Addr × Value) → Prop := Paired fun p q => p.1 = q.1 ∧ H q.2.1 = some (.tup (p.1.map kV)) ∧ RelV p.2 q.2.2
theorem KT.val {H : Hp} {kvs : List (List Key × V)} {xs : List (List Key × Addr × Value)} (r : KT H kvs xs) (k : List Key) : RelO (valV kvs k) ((atKey xs k).map (·.2)) := by
  induction r with
  | nil => exact True.intro
  | @cons p q ps qs h t ih =>
    obtain ⟨h1, _, h2⟩ := h
    by_cases e : p.1 = k
    · have e' : q.1 = k := h1.symm.trans e
      have b : atKey (q :: qs) k = some q.2 := by simp [atKey, List.find?_cons, e']
      rw [valV_pos e, b]; exact h2
    · have e' : ¬ q.1 = k := fun z => e (h1.trans z)
      have b : atKey (q :: qs) k = atKey qs k := by simp [atKey, List.find?_cons, e']
      rw [valV_neg e, b]; exact ih
theorem KT.repl {H : Hp} {kvs : List (List Key × V)} {xs : List (List Key × Addr × Value)} (r : KT H kvs xs) (k : List Key) {y : V} {u : Value} (ry : RelV y u) :
    KT H (kvs.map fun kv => if kv.1 = k then (kv.1, y) else kv) (xs.map (putAt k u)) := by
  induction r with
  | nil => exact .nil
  | @cons p q ps qs h t ih =>
    rw [List.map_cons, List.map_cons]
    refine .cons ?_ ih
    obtain ⟨h1, h2, h3⟩ := h
    unfold putAt
    by_cases e : p.1 = k
    · rw [if_pos e, if_pos (h1.symm.trans e)]; exact ⟨h1, h2, ry⟩
    · rw [if_neg e, if_neg (fun z => e (h1.trans z))]; exact ⟨h1, h2, h3⟩
theorem KT.put {H : Hp} {kvs : List (List Key × V)} {xs : List (List Key × Addr × Value)} (r : KT H kvs xs) (k : List Key) {b : Addr} {y : V} {u : Value} (hb : H b = some (.tup (k.map kV))) (ry : RelV y u) :
    KT H (putK kvs k y) (storedH xs k b u) := by
  have e : (kvs.any fun kv => decide (kv.1 = k)) = (atKey xs k).isSome := by
    rw [valV_any, (r.val k).isSome_eq, Option.isSome_map]
  unfold putK storedH
  rw [e]
  by_cases q : (atKey xs k).isSome = true
  · rw [if_pos q, if_pos q]; exact r.repl k ry
  · rw [if_neg q, if_neg q]; exact Paired.snoc r ⟨rfl, hb, ry⟩
theorem KT.keeps {H H' : Hp} {kvs : List (List Key × V)} {xs : List (List Key × Addr × Value)} (r : KT H kvs xs) (ht : ∀ b ys, H b = some (.tup ys) → H' b = some (.tup ys)) : KT H' kvs xs :=
  Paired.mapP r fun _ _ z => ⟨z.1, ht _ _ z.2.1, z.2.2⟩

section
variable {P : Program} {w : World} {H : Hp} {h : Heap} {a : Addr}
theorem rd_of {u : HO} (ok : HOk P w H h) (e : Rd H a u) : ObjOk P w H h a u := e.ok ok
theorem dk_rd {kvs : List (Key × V)} (ok : HOk P w H h) (e : Rd H a (.dK kvs)) : kvs.length ≤ sizeLine ∧ (a == sysModules) = false ∧ ∃ vs, KV kvs vs ∧ h.DictOf (mixKind P w) a vs :=
  show ObjOk P w H h a (.dK kvs) from rd_of ok e
theorem dk_of {kvs : List (Key × V)} (ok : HOk P w H h) (e : H a = some (.dK kvs)) : kvs.length ≤ sizeLine ∧ (a == sysModules) = false ∧ ∃ vs, KV kvs vs ∧ h.DictOf (mixKind P w) a vs := dk_rd ok (.inl e)
/-- a tracked tuple of ints and texts is a key -/
theorem key_of {ks : List Key} (ok : HOk P w H h) (e : H a = some (.tup (ks.map kV))) : (tupleKind (mixKind P w)).is h ks a := by
  obtain ⟨_, its, r, o, h1, h2, n, h3⟩ := (show ObjOk P w H h a (.tup (ks.map kV)) from ok a _ e)
  exact ⟨o, its.toArray, n, h1, h2, h3, by simpa using items_are r⟩
theorem dt_rd {kvs : List (List Key × V)} (ok : HOk P w H h) (e : Rd H a (.dT kvs)) : kvs.length ≤ sizeLine ∧ (a == sysModules) = false ∧
    ∃ xs, KT H kvs xs ∧ h.DictOfH (tupleKind (mixKind P w)) a xs := by
  obtain ⟨z, y, xs, r, o, es, ep, h1, h2, h3, h4, h5⟩ := (show ObjOk P w H h a (.dT kvs) from rd_of ok e)
  refine ⟨z, y, xs, r, o, es, ep, h1, h2, h3, h4, fun x hx => ?_, h5⟩
  have all : ∀ {l : List (List Key × V)} {m : List (List Key × Addr × Value)}, KT H l m → ∀ x ∈ m, (tupleKind (mixKind P w)).is h x.1 x.2.1 := by
    intro l m q
    induction q with
    | nil => intro x hx; exact nomatch hx
    | @cons p q ps qs hq t ih =>
      intro x hx
      rcases List.mem_cons.mp hx with e | hx
      · subst e
        exact key_of ok (by rw [← hq.1]; exact hq.2.1)
      · exact ih x hx
  exact all r x hx
theorem dt_of {kvs : List (List Key × V)} (ok : HOk P w H h) (e : H a = some (.dT kvs)) : kvs.length ≤ sizeLine ∧ (a == sysModules) = false ∧
    ∃ xs, KT H kvs xs ∧ h.DictOfH (tupleKind (mixKind P w)) a xs := dt_rd ok (.inl e)
end

/-- what the dict at a holds at the key y -/
def DGet (H : Hp) (a : Addr) (y : V) (r : Option V) : Prop :=
  (∃ kvs k, Rd H a (.dK kvs) ∧ y = kV k ∧ r = valV kvs k) ∨ ∃ kvs k b, Rd H a (.dT kvs) ∧ y = .ref b ∧ H b = some (.tup (k.map kV)) ∧ r = valV kvs k
/-- the heap behind a[y] = v -/
def DPut (H : Hp) (a : Addr) (y v : V) (H' : Hp) : Prop :=
  (∃ kvs k, H a = some (.dK kvs) ∧ y = kV k ∧ kvs.length < sizeLine ∧ H' = upd H a (.dK (putK kvs k v))) ∨
  ∃ kvs k b, H a = some (.dT kvs) ∧ y = .ref b ∧ H b = some (.tup (k.map kV)) ∧ kvs.length < sizeLine ∧ H' = upd H a (.dT (putK kvs k v))
theorem DGet.k {H : Hp} {a : Addr} {kvs : List (Key × V)} {k : Key} (e : H a = some (.dK kvs)) : DGet H a (kV k) (valV kvs k) := .inl ⟨kvs, k, .inl e, rfl, rfl⟩
theorem DPut.k {H : Hp} {a : Addr} {kvs : List (Key × V)} {k : Key} {v : V} (e : H a = some (.dK kvs)) (hl : kvs.length < sizeLine) : DPut H a (kV k) v (upd H a (.dK (putK kvs k v))) := .inl ⟨kvs, k, e, rfl, hl, rfl⟩


section
variable {X : Cx} {pins : List (Addr × Obj)} {σ : St} {H : Hp} {s : Shared} {a : Addr} {y v : V} {u r : Value} {o : Option V} {A : Around} {E : Value → Shared → Prop}

theorem Inv.big (I : Inv X pins σ H s) : sysModules < s.heap.objs.size := by
  have h : mainGlobals < s.heap.objs.size := (I.mod.glob.keeps I.bk).lt
  exact Nat.lt_trans (by decide) h

/-- d[y], there -/
theorem d_getItem {Q : Value → Shared → Prop} (hu : A.units + 1 < cLine) (I : Inv X pins σ H s) (g : DGet H a y (some v)) (ry : RelV y u) (h : ∀ w' s', Inv X pins σ H s' → RelV v w' → Q w' s') :
    wpAny (model X.prog X.w) A (getItem (.ref a) u) Q E s := by
  rcases g with ⟨kvs, k, e, ey, l⟩ | ⟨kvs, k, b, e, ey, eb, l⟩
  · subst ey
    obtain ⟨z, hd, vs, rel, dd⟩ := dk_rd I.hok e
    obtain ⟨w', hw, rw'⟩ := RelO.some_of (v := v) (o := valueAt vs k) (by rw [l]; exact rel.val k)
    exact wpAny_getItem_of (kV_is ry) dd.mapOf hw (h w' _ (I.tok _) rw')
  · subst ey
    cases (show u = Value.ref b from ry)
    obtain ⟨z, hd, xs, rel, dd⟩ := dt_rd I.hok e
    obtain ⟨w', hw, rw'⟩ := RelO.some_of (v := v) (o := (atKey xs k).map (·.2)) (by rw [l]; exact rel.val k)
    obtain ⟨p, hp, hp2⟩ := Option.map_eq_some_iff.mp hw
    refine wpAny_getItem_heap (tupleKind_room_in1 hu) (key_of I.hok eb) dd hp ?_
    rw [hp2]
    exact h w' _ (I.tok _) rw'
/-- y in d -/
theorem d_in {Q : Value → Shared → Prop} (hu : A.units + 1 < cLine) (I : Inv X pins σ H s) (g : DGet H a y o) (ry : RelV y u) (h : ∀ s', Inv X pins σ H s' → Q (.bool o.isSome) s') :
    wpAny (model X.prog X.w) A (compareOp .In u (.ref a)) Q E s := by
  rcases g with ⟨kvs, k, e, ey, l⟩ | ⟨kvs, k, b, e, ey, eb, l⟩
  · subst ey
    obtain ⟨z, hd, vs, rel, dd⟩ := dk_rd I.hok e
    refine wpAny_in_of (kV_is ry) hd dd.mapOf ?_
    rw [← (rel.val k).isSome_eq, ← l]
    exact h _ (I.tok _)
  · subst ey
    cases (show u = Value.ref b from ry)
    obtain ⟨z, hd, xs, rel, dd⟩ := dt_rd I.hok e
    refine wpAny_in_heap (tupleKind_room_in1 hu) (key_of I.hok eb) hd dd ?_
    have q := (rel.val k).isSome_eq
    rw [Option.isSome_map] at q
    rw [← q, ← l]
    exact h _ (I.tok _)
theorem d_notIn {Q : Value → Shared → Prop} (hu : A.units + 1 < cLine) (I : Inv X pins σ H s) (g : DGet H a y o) (ry : RelV y u) (h : ∀ s', Inv X pins σ H s' → Q (.bool (!o.isSome)) s') :
    wpAny (model X.prog X.w) A (compareOp .NotIn u (.ref a)) Q E s := by
  rcases g with ⟨kvs, k, e, ey, l⟩ | ⟨kvs, k, b, e, ey, eb, l⟩
  · subst ey
    obtain ⟨z, hd, vs, rel, dd⟩ := dk_rd I.hok e
    refine wpAny_notIn_of (kV_is ry) hd dd.mapOf ?_
    rw [← (rel.val k).isSome_eq, ← l]
    exact h _ (I.tok _)
  · subst ey
    cases (show u = Value.ref b from ry)
    obtain ⟨z, hd, xs, rel, dd⟩ := dt_rd I.hok e
    refine wpAny_notIn_heap (tupleKind_room_in1 hu) (key_of I.hok eb) hd dd ?_
    have q := (rel.val k).isSome_eq
    rw [Option.isSome_map] at q
    rw [← q, ← l]
    exact h _ (I.tok _)
/-- a dict's object is replaced -/
theorem d_write {h' : Heap} {t' : Nat} {ob : HO} (I : Inv X pins σ H s) (mu : Mut (H a)) (hs : Heap.SameBut a s.heap h') (he : ∃ q, h'.get? a = some q) (new : ObjOk X.prog X.w (upd H a ob) h' a ob) :
    Inv X pins σ (upd H a ob) { s with heap := h', toks := t' } :=
  I.write (x := a) (e := a) mu (.inl rfl) (fun b q hb z => (hs.2 b hb).trans z) he new
theorem dk_new {P : Program} {w : World} {H' : Hp} {h' : Heap} {kvs : List (Key × V)} {vs : List (Key × Value)} (z : kvs.length ≤ sizeLine) (hd : (a == sysModules) = false) (rel : KV kvs vs) (dd : h'.DictOf (mixKind P w) a vs) :
    ObjOk P w H' h' a (.dK kvs) := ⟨z, hd, vs, rel, dd⟩
/-- d[y] = v -/
theorem d_setItem {H' : Hp} {Q : Unit → Shared → Prop} (hu : A.units + 1 < cLine) (I : Inv X pins σ H s) (g : DPut H a y v H') (ry : RelV y u) (rv : RelV v r) (h : ∀ s', Inv X pins σ H' s' → Q () s') :
    wpAny (model X.prog X.w) A (setItem (.ref a) u r) Q E s := by
  rcases g with ⟨kvs, k, e, ey, l, eH⟩ | ⟨kvs, k, b, e, ey, eb, l, eH⟩
  · subst ey eH
    obtain ⟨z, hd, vs, rel, dd⟩ := dk_of I.hok e
    have hz : vs.length ≤ sizeLine := by rw [← rel.length]; exact z
    have hl : (putK kvs k v).length ≤ sizeLine := by have := length_putK kvs k v; omega
    refine wpAny_setItem_pairs (hsz := hz) (kV_is ry) dd fun h' dd' hs => h _ ?_
    have he : ∃ q, h'.get? a = some q := let ⟨q, _, _, hq, _⟩ := dd'; ⟨q, hq⟩
    exact d_write I (by rw [e]; exact True.intro) hs he (dk_new hl hd (rel.put k rv) dd')
  · subst ey eH
    cases (show u = Value.ref b from ry)
    obtain ⟨z, hd, xs, rel, dd⟩ := dt_of I.hok e
    have hz : xs.length ≤ sizeLine := by rw [← Paired.length rel]; exact z
    have hl : (putK kvs k v).length ≤ sizeLine := by have := length_putK kvs k v; omega
    refine wpAny_setItem_heap (hsz := hz) (tupleKind_room_in1 hu) (key_of I.hok eb) dd fun h' dd' hs => h _ ?_
    obtain ⟨q, es, ep, hq, h2, h3, h4, _, h5⟩ := dd'
    refine d_write I (by rw [e]; exact True.intro) hs ⟨q, hq⟩ ⟨hl, hd, _, (rel.put k eb rv).keeps fun c ys ec => ?_, q, es, ep, hq, h2, h3, h4, h5⟩
    rw [upd_ne (ne_of ec e (fun z => nomatch z))]
    exact ec
end

section
variable {X : Cx} {pins : List (Addr × Obj)} {σ : St} {H : Hp} {s : Shared} {a : Addr} {kvs : List (Key × V)} {k : Key} {u : Value} {A : Around} {E : Value → Shared → Prop}
end


/-! ### readings and rules -/
/-- the element of a subscription, not a slice -/
def NoSl (i : Expr) : Prop := ∀ ov iv, subscripted i false ov iv = operate [ov, iv] (getItem ov iv)
theorem subD_of {prog : Program} {w : World} {A : Around} {E : Value → Shared → Prop} {s : Shared} {env : Env} {value slice : Expr} {pos : Pos} {T id : String} {Q : Value → Shared → Prop}
    (hl : typeLookup (.type T) "__getitem__" = pure (some (.builtin id))) (hs : NoSl slice)
    (h : wpAny (model prog w) A (eval value env) (fun o s₁ => wpAny (model prog w) A (eval slice env) (fun i s₂ => s₂.TypeIs o T ∧ wpAny (model prog w) A (getItem o i) Q E s₂) E s₁) E s) :
    wpAny (model prog w) A (eval (.Subscript value slice pos) env) Q E s := by
  refine Subscript_ (wpAny_mono h (fun o s₁ h₁ => wpAny_mono h₁ (fun i s₂ h₂ => ?_) fun _ _ x => x) fun _ _ x => x)
  obtain ⟨hT, h₂⟩ := h₂
  unfold subscriptTail
  refine wpAny_bind ?_
  rw [getitemInPython_of_ne hT.not_modules]
  refine wpAny_bind (wpAny_specialOf hT hl ?_)
  have fin : wpAny (model prog w) A (subscripted slice false o i) (fun r s₃ => wpAny (model prog w) A (letTemporaryGo value o r >>= fun _ => pure r) Q E s₃) E s₂ := by
    rw [hs o i]
    exact wpAny_operating (wpAny_mono h₂ (fun r s₃ h₃ => wpAny_bind (wpAny_letTemporaryGo (wpAny_pure h₃))) fun _ _ x => x)
  first
    | exact wpAny_pure (wpAny_bind fin)
    | exact wpAny_bind (wpAny_pure (wpAny_bind fin))
    | exact wpAny_bind fin

theorem dict_typeIs {X : Cx} {pins : List (Addr × Obj)} {σ : St} {H : Hp} {s : Shared} {a : Addr} {y : V} {o : Option V} (I : Inv X pins σ H s) (g : DGet H a y o) : s.TypeIs (.ref a) "dict" := by
  rcases g with ⟨kvs, k, e, _, _⟩ | ⟨kvs, k, b, e, _, _, _⟩
  · obtain ⟨_, _, vs, _, dd⟩ := dk_rd I.hok e
    exact dd.typeIs
  · obtain ⟨_, _, xs, _, dd⟩ := dt_rd I.hok e
    exact dd.typeIs

/-- d[y] -/
def tDGet (td ty : TE) : TE := fun σ H Q => td σ H fun x H1 => ty σ H1 fun y H2 => ∃ a v, x = .ref a ∧ DGet H2 a y (some v) ∧ Q v H2
/-- y in d, y not in d -/
def tDIn (ty td : TE) : TE := fun σ H Q => ty σ H fun y H1 => td σ H1 fun x H2 => ∃ a o, x = .ref a ∧ DGet H2 a y o ∧ Q (.bl o.isSome) H2
def tDNotIn (ty td : TE) : TE := fun σ H Q => ty σ H fun y H1 => td σ H1 fun x H2 => ∃ a o, x = .ref a ∧ DGet H2 a y o ∧ Q (.bl (!o.isSome)) H2
/-- d[y] = v -/
def sDPut (td ty tv : TE) : TS := fun D σ H => tv σ H fun v H1 => td σ H1 fun x H2 => ty σ H2 fun y H3 => ∃ a H4, x = .ref a ∧ DPut H3 a y v H4 ∧ D.nx σ H4

section
variable {X : Cx} {o i e value : Expr} {pos pos' tpos : Pos} {td ty tv : TE}
theorem pe_dget (hu : X.A.units + 1 < cLine) (ho : PE X o td) (hi : PE X i ty) (hs : NoSl i) : PE X (.Subscript o i pos) (tDGet td ty) := by
  intro pins s σ H Q I h
  refine subD_of PySem.F.slot_dict_getitem.lookup hs (thn (ho pins s σ H _ I h) fun u s1 ⟨x, H1, I1, rx, q1⟩ => thn (hi pins s1 σ H1 _ I1 q1) fun iv s2 ⟨y, H2, I2, ry, a, v, ex, g, q2⟩ => ?_)
  subst ex
  obtain rfl : u = Value.ref a := rx
  exact ⟨dict_typeIs I2 g, d_getItem hu I2 g ry fun w' s3 I3 rw' => ⟨v, H2, I3, rw', q2⟩⟩
theorem pc_din (hu : X.A.units + 1 < cLine) (hi : PE X i ty) (ho : PE X o td) : PC X .In i o (tDIn ty td) := by
  intro pins s σ H Q I h
  refine thn (hi pins s σ H _ I h) fun iv s1 ⟨y, H1, I1, ry, q1⟩ => thn (ho pins s1 σ H1 _ I1 q1) fun u s2 ⟨x, H2, I2, rx, a, ov, ex, g, q2⟩ => ?_
  subst ex
  obtain rfl : u = Value.ref a := rx
  exact d_in hu I2 g ry fun s3 I3 => ⟨.bl ov.isSome, H2, I3, rfl, q2⟩
theorem pc_dnotin (hu : X.A.units + 1 < cLine) (hi : PE X i ty) (ho : PE X o td) : PC X .NotIn i o (tDNotIn ty td) := by
  intro pins s σ H Q I h
  refine thn (hi pins s σ H _ I h) fun iv s1 ⟨y, H1, I1, ry, q1⟩ => thn (ho pins s1 σ H1 _ I1 q1) fun u s2 ⟨x, H2, I2, rx, a, ov, ex, g, q2⟩ => ?_
  subst ex
  obtain rfl : u = Value.ref a := rx
  exact d_notIn hu I2 g ry fun s3 I3 => ⟨.bl (!ov.isSome), H2, I3, rfl, q2⟩
theorem ps_dput (hu : X.A.units + 1 < cLine) (ho : PE X o td) (hi : PE X i ty) (hv : PE X value tv) (hs : swapsWith value (some (.Subscript o i pos')) pos.line X.env = pure false) :
    PS X (.Assign [.Subscript o i pos'] value pos) (sDPut td ty tv) := by
  intro pins s σ H D I h
  refine wpAny_Assign_Subscript (thn (hv pins s σ H _ I h) fun r s1 ⟨v, H1, I1, rv, q1⟩ => thn (ho pins s1 σ H1 _ I1 q1) fun u s2 ⟨x, H2, I2, rx, q2⟩ => thn (hi pins s2 σ H2 _ I2 q2) fun iv s3 ⟨y, H3, I3, ry, a, H4, ex, g, q3⟩ => ?_) hs
  subst ex
  obtain rfl : u = Value.ref a := rx
  exact d_setItem hu I3 g ry rv fun s4 I4 => ⟨σ, H4, I4, q3⟩
end


/-! ### displays -/
theorem dk_empty {P : Program} {w : World} {H : Hp} (h : Heap) (hb : sysModules < h.objs.size) : ObjOk P w H (h.push { cls := .type "dict", data := .dict #[] }) h.objs.size (.dK []) :=
  ⟨Nat.zero_le _, beq_eq_false_iff_ne.mpr (Ne.symm (Nat.ne_of_lt hb)), [], .nil, Heap.DictOf.new h⟩
section
variable {X : Cx} {pos : Pos}
end

/-- the pairs of a display, from the left -/
def tPairs : List (TE × TE) → St → Hp → (List (V × V) → Hp → Prop) → Prop
  | [], _, H, Q => Q [] H
  | (tk, tv) :: r, σ, H, Q => tk σ H fun x H1 => tv σ H1 fun y H2 => tPairs r σ H2 fun ps H3 => Q ((x, y) :: ps) H3
abbrev VV : List (V × V) → List (Value × Value) → Prop := Paired fun p q => RelV p.1 q.1 ∧ RelV p.2 q.2
def PPs (X : Cx) (pos : Pos) (keys : List (Option Expr)) (values : List Expr) (trs : List (TE × TE)) : Prop :=
  ∀ (pins : List (Addr × Obj)) (s : Shared) (σ : St) (H : Hp) (Q : List (V × V) → Hp → Prop), Inv X pins σ H s → tPairs trs σ H Q →
    wpAny (model X.prog X.w) X.A (evalPairs (pairTrees keys values X.env pos)) (fun vs s' => ∃ ps H', Inv X pins σ H' s' ∧ VV ps vs ∧ Q ps H') X.xe s
theorem pps_nil {X : Cx} {pos : Pos} : PPs X pos [] [] [] := fun pins s σ H Q I h => pairTrees_nil_walk ⟨[], H, I, .nil, h⟩
theorem pps_cons {X : Cx} {pos : Pos} {k v : Expr} {ks : List (Option Expr)} {vs : List Expr} {tk tv : TE} {trs : List (TE × TE)} (hk : PE X k tk) (hv : PE X v tv) (hr : PPs X pos ks vs trs) :
    PPs X pos (some k :: ks) (v :: vs) ((tk, tv) :: trs) := fun pins s σ H Q I h =>
  pairTrees_cons_walk (thn (hk pins s σ H _ I h) fun u s1 ⟨x, H1, I1, rx, q1⟩ => thn (hv pins s1 σ H1 _ I1 q1) fun w2 s2 ⟨y, H2, I2, ry, q2⟩ =>
    thn (hr pins s2 σ H2 _ I2 q2) fun ws s3 ⟨ps, H3, I3, rel, q3⟩ => ⟨(x, y) :: ps, H3, I3, .cons ⟨rx, ry⟩ rel, q3⟩)

def mergeK (kvs more : List (Key × V)) : List (Key × V) := more.foldl (fun acc kv => putK acc kv.1 kv.2) kvs
theorem KV.merge : ∀ {more : List (Key × V)} {rs : List (Key × Value)} {kvs : List (Key × V)} {vs : List (Key × Value)}, KV more rs → KV kvs vs → KV (mergeK kvs more) (merged vs rs) := by
  intro more rs kvs vs r
  unfold KV at r
  induction r generalizing kvs vs with
  | nil => intro q; exact q
  | @cons p q ps qs h t ih =>
    intro r0
    have e : KV (putK kvs p.1 p.2) (stored vs q.1 q.2) := by
      have := r0.put p.1 h.2
      rw [← h.1]; exact this
    exact ih e
theorem length_mergeK : ∀ (more kvs : List (Key × V)), (mergeK kvs more).length ≤ kvs.length + more.length
  | [], kvs => by show kvs.length ≤ kvs.length + 0; omega
  | p :: r, kvs => by
    have h1 := length_mergeK r (putK kvs p.1 p.2)
    have h2 := length_putK kvs p.1 p.2
    show (mergeK (putK kvs p.1 p.2) r).length ≤ _
    rw [List.length_cons]; omega
theorem carries_of {P : Program} {w : World} : ∀ {kvs : List (Key × V)} {ws : List (Value × Value)}, VV (kvs.map fun kv => (kV kv.1, kv.2)) ws → ∃ rs, Carries (mixKind P w) ws rs ∧ KV kvs rs
  | [], _, r => by rw [List.map_nil] at r; cases r; exact ⟨[], True.intro, .nil⟩
  | p :: kvs, _, r => by
    rw [List.map_cons] at r
    cases r with
    | @cons a b as bs h t =>
      obtain ⟨rs, c, q⟩ := carries_of (P := P) (w := w) t
      obtain ⟨b1, b2⟩ := b
      exact ⟨(p.1, b2) :: rs, ⟨kV_is h.1, rfl, c⟩, .cons ⟨rfl, h.2⟩ q⟩
/-- {k: v, ..} with keys ints and texts; the new dict stands empty while the pairs are made -/
def tDisp (trs : List (TE × TE)) : TE := fun σ H Q => ∀ p, H p = none → tPairs trs σ (upd H p (.dK [])) fun ps H2 => H2 p = some (.dK []) ∧ ∃ kvs : List (Key × V), ps = kvs.map (fun kv => (kV kv.1, kv.2)) ∧ kvs.length ≤ 15 ∧ Q (.ref p) (upd H2 p (.dK (mergeK [] kvs)))
theorem pe_disp {X : Cx} {pos : Pos} {keys : List (Option Expr)} {values : List Expr} {trs : List (TE × TE)} (h : PPs X pos keys values trs) (hall : keys.all (·.isSome) = true) (hl : keys.length = values.length) (h0 : keys ≠ [])
    (h15 : keys.length ≤ 15) : PE X (.Dict keys values pos) (tDisp trs) := by
  intro pins s σ H Q I q
  have hn := I.hok.fresh (Nat.le_refl s.heap.objs.size)
  have I1 := I.laid (a := s.heap.objs.size) (o := .dK []) (h' := s.heap.push { cls := .type "dict", data := .dict #[] }) (t' := s.toks) (fun _ _ q => Heap.get?_push_of_some _ q) (Nat.le_refl _) (dk_empty s.heap I.big)
  refine wpAny_Dict_walk (knd := mixKind X.prog X.w) hall hl h0 h15 (thn (h pins _ σ _ _ I1 (q _ hn)) fun ws s2 ⟨ps, H2, I2, rel, e, kvs, ep, lk, q2⟩ => ?_)
  subst ep
  obtain ⟨rs, c, rk⟩ := carries_of (P := X.prog) (w := X.w) rel
  obtain ⟨z, hd, vs0, r0, dd⟩ := dk_of I2.hok e
  cases r0
  refine ⟨rs, c, dd, fun h' dd' hs => ⟨.ref s.heap.objs.size, _, ?_, rfl, q2⟩⟩
  have hz : (mergeK [] kvs).length ≤ sizeLine := by
    have h1 := length_mergeK kvs []
    rw [List.length_nil] at h1
    rw [sizeLine_eq]; omega
  have he : ∃ q, h'.get? s.heap.objs.size = some q := let ⟨q, _, _, hq, _⟩ := dd'; ⟨q, hq⟩
  exact d_write I2 (by rw [e]; exact True.intro) hs he (dk_new hz hd (rk.merge .nil) dd')


/-! ### methods -/
/-- a method call o.m(e) of a built-in, with one argument: what must be seen of the text -/
structure M1 (X : Cx) (o : Expr) (m : Str) (apos : Pos) (e : Expr) (cpos : Pos) : Prop where
  base : attributeBase o m X.env (eval o X.env) = eval o X.env
  few : ((backTo cpos (starEach [e] X.env)).all (fun x => !x.1) && (backToKw cpos (keywordEach [] X.env)).all (fun x => x.1.isSome)
    && decide (([e] : List Expr).length + ([] : List Keyword).length + (if ([] : List Keyword).isEmpty then 0 else 1) < 30)) = true
  line : (apos.endLine == cpos.line) = true
  trees : backTo cpos (starEach [e] X.env) = [(false, eval e X.env)]
structure M2 (X : Cx) (o : Expr) (m : Str) (apos : Pos) (e f : Expr) (cpos : Pos) : Prop where
  base : attributeBase o m X.env (eval o X.env) = eval o X.env
  few : ((backTo cpos (starEach [e, f] X.env)).all (fun x => !x.1) && (backToKw cpos (keywordEach [] X.env)).all (fun x => x.1.isSome)
    && decide (([e, f] : List Expr).length + ([] : List Keyword).length + (if ([] : List Keyword).isEmpty then 0 else 1) < 30)) = true
  line : (apos.endLine == cpos.line) = true
  trees : backTo cpos (starEach [e, f] X.env) = [(false, eval e X.env), (false, eval f X.env)]


section
variable {X : Cx} {pins : List (Addr × Obj)} {σ : St} {H : Hp} {s : Shared} {a : Addr} {y d : V} {u r : Value} {o : Option V} {A : Around} {E : Value → Shared → Prop}
end

section
variable {X : Cx} {o e f : Expr} {apos cpos : Pos} {td ty tx : TE}
end

/-! ### dict(d): a copy -/
section
variable {X : Cx} {pins : List (Addr × Obj)} {σ : St} {H : Hp} {s : Shared} {a : Addr} {kvs : List (Key × V)} {A : Around} {E : Value → Shared → Prop}
end


section
variable {X : Cx} {pins : List (Addr × Obj)} {σ : St} {H : Hp} {s : Shared} {a : Addr} {y : V} {u : Value} {A : Around} {E : Value → Shared → Prop}
end
end L2

namespace Att
open PySem PySem.W PySem.Calls PyProof.Rows

/-! ### the script -/
theorem ints_of_wellAll {P : Params} {h : Heap} : ∀ (ns : List Int) (vs : List Value), WellAll P h vs (ns.map WData.int) → IntsAre vs ns := by
  intro ns
  induction ns with
  | nil =>
    intro vs w
    rw [List.map_nil] at w
    cases w
    exact .nil
  | cons n ns ih =>
    intro vs w
    rw [List.map_cons] at w
    cases w with
    | cons a b =>
      cases a
      exact .cons _ _ (ih _ b)

theorem script_of {l : OpenLaw} {n : Nat} (hn : l.most = some n) {P : Params} {h : Heap} {args : List WData} {vals : List Value}
    (hpre : l.row.toRowW.claim.pre args = true) (hwl : WellAll P h vals args) :
    ∃ a vs ns, vals = [Value.ref a] ∧ args = [WData.list (ns.map WData.int)] ∧ h.get? a = some { cls := .type "list", data := .seq vs.toArray } ∧ IntsAre vs ns ∧ ns.length ≤ n := by
  have hsh : WShape.hasAll [] args [.list .int] = true := (pre_splitW hpre).1
  have hc : l.pre.holds [] { args := args } = true := (pre_splitW hpre).2
  obtain ⟨d, r, rfl, h1, h2⟩ := hasAllW_cons hsh
  obtain rfl := hasAllW_nil h2
  obtain ⟨xs, rfl, h3⟩ := hasW_list h1
  obtain ⟨ns, rfl⟩ := items_int h3
  have hlen : ns.length ≤ n := by
    unfold OpenLaw.pre at hc
    have h4 : (WTm.not (.lt (.lit (.int (n : Int))) (.len (.arg 0)))).holds [] { args := [.list (ns.map .int)] } = true := by
      have h4 := (holds_andW hc).1
      rw [hn] at h4
      exact h4
    have h5 := condW_of h4 (w_not (w_lt w_lit (w_len_list (w_arg rfl))))
    rw [List.length_map] at h5
    refine Nat.le_of_not_lt fun q => ?_
    have q' : (n : Int) < ((ns.length : Nat) : Int) := by omega
    first
      | (rw [decide_eq_true q'] at h5; exact absurd h5 (by decide))
      | (simp at h5; omega)
  cases hwl with
  | cons w1 w2 =>
    cases w2
    cases w1 with
    | list ho hall => exact ⟨_, _, ns, rfl, rfl, ho, ints_of_wellAll ns _ hall, hlen⟩

theorem post_true (l : OpenLaw) (args : List WData) : l.row.toRowW.claim.post args (.bool true) args = true :=
  postW_of (r := l.row.toRowW) (X := (true == true))
    (show WShape.has [] (.bool true) .bool = true by first | rfl | decide | simp [WShape.has, WShape.arms, WShape.armsAll])
    (show (WTm.eq .res (.lit (.bool true))).value [] { args := args, res := some (.bool true), after := args } = some (.bool (true == true)) from w_eq_bool (w_res rfl) w_lit) rfl

/-! ### the attachment: holds_open's last premise (the goal 'hc' behind k_head) from a wpAny of the law's body -/

/-- the same from a codeAny of the CALL (for a layer whose function contracts speak of calls) -/
theorem attach_call {l : OpenLaw} {n : Nat} {q : Program} {loose : List Str} {XP : (Str → Option Value) → Heap → Prop} {YP : World → Heap → Prop} {d : DefRec}
    (hn : l.most = some n) (hdf : d.params.defaults = [])
    (call : ∀ (w : World) (s₀ s₁ : Shared) (mg mb : Str → Option Value) (fa : Addr) (o : Obj) (pm cd doc : Value) (a : Addr) (vs : List Value) (ns : List Int),
      Ground q loose [] XP w s₀ mg mb s₁.heap → YP w s₁.heap →
      s₁.heap.get? fa = some o → o.data = .func (docDef d.name d.params d.body d.scope pm cd doc) → s₁.heap.CodeRec cd d.name → mg d.name = some (.ref fa) →
      s₁.heap.get? a = some { cls := .type "list", data := .seq vs.toArray } → IntsAre vs ns → ns.length ≤ n → s₁.gens = #[] →
      codeAny (model l.prog w) callerA (.call (.ref fa) ⟨[.ref a], []⟩) (fun r s' => r = .ok (.ret (.bool true)) ∧ OldK s₁.heap s'.heap ∧ s'.os = s₁.os ∧ AllBare s'.gens) s₁) :
    WalkO q loose XP YP l.row.toRowW d [] (fun f vs => PySem.call f vs) := by
  intro w s₀ s₁ mg mb G Y fa o pm cd doc dV kV ho hd hcd hD hmg hg args vals as hpre hlay hrd hwl hlo
  obtain rfl : dV = .none := Dflts.none hD hdf
  obtain rfl : kV = .none := Dflts.noKw hD
  obtain ⟨a, vs, ns, rfl, rfl, hobj, hints, hlen⟩ := script_of hn hpre hwl
  refine enter_call (codeAny_mono (call w s₀ s₁ mg mb fa o pm cd doc a vs ns G Y ho (fd_plain hd) hcd hmg hobj hints hlen hg) fun r s' hq => ?_)
  obtain ⟨rfl, h2, h3, h4⟩ := hq
  exact ⟨.inl ⟨.bool true, .bool true, [], rfl, fun _ => rfl, .bool true, post_true l _, fun _ => ⟨List.Pairwise.nil, fun _ hm => (nomatch hm)⟩⟩, h2, h3, h4⟩


/-! ### rules over ANY heap (no ledger) from facts about the written part K: the library's own take a ledger (News) for what they write -/
section
variable {prog : Program} {w : World} {A : Around} {E : Value → Shared → Prop} {s : Shared} {K : Frag}





/-! the whole heap as the ledger: makes every rule that writes through a ledger a rule over any heap -/

end
end Att

namespace L2
open PySem PySem.Spec PyProof.Rows

theorem vals_ints : ∀ {vs : List Value} {ns : List Int}, IntsAre vs ns → Vals (ns.map V.int) vs
  | _, _, .nil => .nil
  | _, _, .cons n t h => .cons ⟨t, rfl⟩ (vals_ints h)

/-- nothing is tracked but the script, known to the object (or it is an object of the module) -/
def Only (H : Hp) : Prop := ∀ b, H b = none ∨ ∃ o xs, H b = some (.frz o (.lst xs))

/-- THE HEAD: the law's promise, at the heap behind the top. F, the promise of the law's def, may use that base is part of the heap (so K.In base, base.Ns mainGlobals mg stand in Mod) -/
theorem law_call {P : Program} {w : World} {K : PySem.W.Frag} {mg mb : Str → Option Value} {CX : CXT} {k : Nat} {fa a : Addr} {fd : FuncData} {x : Str} {sp : Sp} {s₁ : Shared} {vs : List Value} {ns : List Int}
    (KX : K.In s₁.heap) (hns : s₁.heap.Ns mainGlobals mg) (hb : s₁.heap.Ns builtinsNs mb) (hbb : ∀ x : Str, x ≠ "__name__" → mb x = bootBuiltins x) (hlim : s₁.heap.NoLimit) (hg : s₁.gens = #[])
    (ha : s₁.heap.get? a = some { cls := .type "list", data := .seq vs.toArray }) (hi : IntsAre vs ns) (hl : ns.length ≤ sizeLine) (hr : Room k callerA)
    (F : ∀ base : Heap, K.In base → base.Ns mainGlobals mg → FnOk P w K mg base CX k fa fd [x] sp) (hbind : ∀ (s : Shared) (u : Value), BindsTo s fd ⟨[u], []⟩ [(x, u)])
    (hsp : ∀ H : Hp, Only H → SqL K H a (ns.map V.int) → sp [.ref a] H (fun v _ => v = .bl true) fun _ _ _ => False)
    (hCX : ∀ H e s', CX [] H s₁ (fun _ _ _ => False) e s' → False) :
    codeAny (model P w) callerA (.call (.ref fa) ⟨[.ref a], []⟩) (fun r s' => r = .ok (.ret (.bool true)) ∧ OldK s₁.heap s'.heap ∧ s'.os = s₁.os ∧ AllBare s'.gens) s₁ := by
  have rv := vals_ints hi
  have lenV := hi.length
  -- from an abstract heap in which nothing but the script may be tracked
  have core : ∀ H : Hp, Only H → SqL K H a (ns.map V.int) → HOk P w H s₁.heap → (∀ b, H b ≠ none → b = a) → (H a ≠ none → K.lookup a = none) →
      codeAny (model P w) callerA (.call (.ref fa) ⟨[.ref a], []⟩) (fun r s' => r = .ok (.ret (.bool true)) ∧ OldK s₁.heap s'.heap ∧ s'.os = s₁.os ∧ AllBare s'.gens) s₁ := by
    intro H hO hS hok hA hK
    have base_of : ∀ {b : Addr} {o : Obj}, s₁.heap.get? b = some o → H b = none → (hidT s₁.heap H).get? b = some o := fun e n => hidT_get e n
    have noA : ∀ {b : Addr} {o : Obj} {es : Array DictEntry} {ep : Nat}, s₁.heap.get? b = some o → o.data = .dict es ep → H b = none := fun {b o es ep} e d => by
      cases q : H b with
      | none => rfl
      | some u =>
        have e' : b = a := hA b (by rw [q]; simp)
        subst e'
        rw [ha] at e; cases e
        have d' : Data.seq vs.toArray _ = Data.dict es ep := d
        cases d'
    have nsK : ∀ {b : Addr} {m : Str → Option Value}, s₁.heap.Ns b m → (hidT s₁.heap H).Ns b m := fun {b m} ⟨o, es, ep, e, d, r⟩ => ⟨o, es, ep, base_of e (noA e d), d, r⟩
    have hKb : K.In (hidT s₁.heap H) := fun b o e => base_of (KX b o e) (by
      cases q : H b with
      | none => rfl
      | some u =>
        have e' : b = a := hA b (by rw [q]; simp)
        subst e'
        rw [hK (by rw [q]; simp)] at e; cases e)
    have hM : Mod K mg (hidT s₁.heap H) := ⟨hKb, nsK hns, ⟨mb, nsK hb, hbb⟩, let ⟨mc, h1, h2⟩ := hlim; ⟨mc, nsK h1, h2⟩⟩
    have e0 : Env0 P w K mg (hidT s₁.heap H) callerA [] s₁ H := ⟨rfl, hM, fun b o e => of_hidT e, Nat.le_of_eq (hidT_size _ _), trivial, fun b hb => absurd (show b ∈ ([] : List Addr) from hb) (by simp), hok, .of_eq hg⟩
    refine codeAny_mono ((F _ hKb (nsK hns)).run callerA [] s₁ H ⟨[.ref a], []⟩ [.ref a] [.ref a] _ _ hr e0 (hbind s₁ (.ref a)) (.cons rfl .nil) (hsp H hO hS)) fun r s' h => ?_
    cases r with
    | error e => exact (hCX H e s' h).elim
    | ok fl =>
      cases fl with
      | next => exact False.elim h
      | brk => exact False.elim h
      | cont => exact False.elim h
      | ret u =>
        obtain ⟨v, H', os, bare, un, hok', r', q⟩ := h
        have q' : v = .bl true := q
        subst q'
        obtain rfl : u = Value.bool true := r'
        refine ⟨rfl, OldK.of_keep fun b o e => ?_, os, bare⟩
        cases q : H b with
        | none => exact un.keep b o e q (by intro z; exact absurd (show b ∈ ([] : List Addr) from z) (by simp)) (by simp)
        | some u =>
          rcases hO b with z | ⟨ob, xs, z⟩
          · rw [q] at z; cases z
          · have z2 := un.frzs b ob _ z
            obtain ⟨e1, _⟩ := hok b _ z
            obtain ⟨e2, _⟩ := hok' b _ z2
            rw [e] at e1; cases e1
            exact e2
  cases hk : K.lookup a with
  | some o =>
    -- the script is one of the module's own objects
    have e := KX a o hk
    rw [ha] at e
    cases e
    refine core (fun _ => none) (fun _ => .inl rfl) (.inr ⟨_, vs.toArray, _, hk, rfl, rfl, rfl, by rw [List.size_toArray, lenV]; exact hl, by simpa using rv⟩) (fun b u z => by have z' : (none : Option HO) = some u := z; cases z') (fun b z => absurd rfl z) fun z => absurd rfl z
  | none =>
    refine core (fun b => if b = a then some (.frz { cls := .type "list", data := .seq vs.toArray } (.lst (ns.map V.int))) else none) (fun b => ?_) (.inl (.inr ⟨{ cls := .type "list", data := .seq vs.toArray }, if_pos rfl⟩)) (fun b u z => ?_) (fun b z => ?_) fun _ => hk
    · by_cases hb : b = a
      · exact .inr ⟨_, _, if_pos hb⟩
      · exact .inl (if_neg hb)
    · by_cases hb : b = a
      · have z' := (if_pos hb).symm.trans z
        cases z'
        subst hb
        exact ⟨ha, by rw [List.length_map]; exact hl, vs, _, rv, ha⟩
      · have z' := (if_neg hb).symm.trans z
        cases z'
    · by_cases hb : b = a
      · exact hb
      · exact absurd (if_neg hb) z
end L2

namespace L2
open PySem PySem.Spec PyProof.Rows


/-- the goal that k_head leaves (case hc), from the law's promise. F gives the function object fd (K's own) once, then the promise over every base -/
theorem walk_of {l : PySem.W.OpenLaw} {n k : Nat} {q : Program} {loose : List Str} {XP : (Str → Option Value) → Heap → Prop} {YP : World → Heap → Prop} {d : DefRec} {K : Params → PySem.W.Frag} {CX : World → CXT} {sp : World → Sp} {x : Str}
    (hn : l.most = some n) (hn2 : n ≤ sizeLine) (hdf : d.params.defaults = []) (hr : Room k callerA)
    (hY : ∀ (w : World) (h : Heap), YP w h → (K w.params).In h)
    (F : ∀ (w : World) (mg : Str → Option Value) (fa : Addr) (h : Heap), (K w.params).In h → h.Ns mainGlobals mg → mg d.name = some (.ref fa) →
      ∃ fd : FuncData, (∀ (s : Shared) (u : Value), BindsTo s fd ⟨[u], []⟩ [(x, u)]) ∧
        ∀ base : Heap, (K w.params).In base → base.Ns mainGlobals mg → FnOk l.prog w (K w.params) mg base (CX w) k fa fd [x] (sp w))
    (hsp : ∀ (w : World) (H : Hp) (a : Addr) (ns : List Int), ns.length ≤ n → Only H → SqL (K w.params) H a (ns.map V.int) → sp w [.ref a] H (fun v _ => v = .bl true) fun _ _ _ => False)
    (hCX : ∀ (w : World) (H : Hp) (s : Shared) (e : Value) (s' : Shared), CX w [] H s (fun _ _ _ => False) e s' → False) :
    PySem.W.WalkO q loose XP YP l.row.toRowW d [] (fun f vs => PySem.call f vs) := by
  refine Att.attach_call hn hdf fun w s₀ s₁ mg mb fa o pm cd doc a vs ns G Y ho hd hcd hmg hobj hints hlen hg => ?_
  have KX := hY w _ Y
  obtain ⟨fd, hb, hF⟩ := F w mg fa _ KX G.T.g hmg
  exact law_call KX G.T.g G.T.b G.T.builtins G.T.nolimit hg hobj hints (Nat.le_trans hlen hn2) hr hF hb (fun H hO hS => hsp w H a ns hlen hO hS) fun H e s' => hCX w H s₁ e s'
end L2

/- THE LAST THEOREM (shape; LID, My.* are yours):
   My.Adr: a structure of the addresses that your layer names (classes, functions); My.Txt K t: a structure (Prop) of the equations over K;
   My.txt_mk : {K} {implicit addresses ..} (e1 : nsIn K mainGlobals "law" = some (some (.ref f))) (e2 : K.lookup f = some ⟨oc, od, .func (fnOf "law" "law" params body scope dV kV doc pm an cdv ct), sl⟩) (e3 : codeIn K cdv "law" = true) .. : ∃ t, My.Txt K t

set_option maxRecDepth 100000 in
set_option maxHeartbeats 0 in
theorem PySem.Challenge.cw_LID_holds : PySem.Challenge.rw_LID.Holds := by
  w_on; o_law; k_head; (case hw => w_witness2)
  k_fill
  refine L2.walk_of (l := PySem.Challenge.rw_LID) (n := 63) (k := 40) (x := "script") (CX := fun w => ..) (sp := fun _ => My.sp_law) rfl (by decide) rfl ⟨rfl, by decide, by decide⟩ (fun w h Y => PySem.W.kIn_of Y) ?F ?S ?C
  case F =>
    intro w mg fa h KX G hmg
    have T : ∃ t, My.Txt (L2.KOf KX) t := by
      dsimp only [L2.KOf]                          -- K must stand as «<heap const> w.params» for k_is
      refine' My.txt_mk ?e1 ?e2 ?e3 ..
      (case e1 => PySem.W.k_is)                    -- in the order: a name -> its address -> its object -> its parts
      (case e2 => PySem.W.k_is)
      ..
    obtain ⟨t, T⟩ := T
    have e0 := hmg.symm.trans (PySem.W.mg_of KX G T.law)
    cases e0                                       -- fa is the law's own address
    exact ⟨_, fun s u => .of_eq rfl, fun base kb nb => My.law_fn T kb nb⟩     -- if «.of_eq rfl» comes too early: refine' ⟨_, ?b, fun base kb nb => My.law_fn T kb nb⟩; exact fun s u => .of_eq rfl
  case S => exact fun w H a ns hl hO hS => ..
  case C => exact ..
(the tactic k_is has no namespace: write k_is) -/

/-! SHORT WORDS over the layer: a def of the text, its body, what a loop and a test want. -/
namespace L2
open PySem PySem.Spec PyProof.Rows

/-! ### the text by places -/
def defArgs (s : Stmt) : Arguments := match s with
  | .FunctionDef _ a _ _ _ _ _ _ _ _ => a
  | _ => { posonlyargs := [], args := [], vararg := none, kwonlyargs := [], kw_defaults := [], kwarg := none, defaults := [] }
def defBody (s : Stmt) : List Stmt := match s with
  | .FunctionDef _ _ b _ _ _ _ _ _ _ => b
  | _ => []
def defScope (s : Stmt) : Scope := match s with
  | .FunctionDef _ _ _ _ _ _ sc _ _ _ => sc
  | _ => { kind := .function, names := [], isGenerator := false, isCoroutine := false }

/-! ### no exception leaves a def -/
abbrev CX0 : CXT := fun _ _ _ _ _ _ => False
abbrev E0 : XK := fun _ _ _ => False
theorem pass0 {X : Cx} : Passes CX0 X E0 := fun _ _ _ _ _ _ _ h => h.elim

/-! ### a def (or method) of the text as it stands behind the top -/
structure Fun (K : PySem.W.Frag) (x qual : Str) (st : Stmt) (f : Addr) (fd : FuncData) : Prop where
  ex : ∃ (oc : Value) (od : Option Addr) (kV doc pm : Value) (an : Option Addr) (cdv ct : Value) (osl : Array (Option Value)),
    fd = PySem.W.fnOf x qual (defArgs st) (defBody st) (defScope st) .none kV doc pm an cdv ct ∧ K.lookup f = some ⟨oc, od, .func fd, osl⟩ ∧ PySem.W.codeIn K cdv qual = true
  kp : PySem.W.keepIn K (.ref f) = true
section
variable {P : Program} {w : World} {K : PySem.W.Frag} {mg : Str → Option Value} {base : Heap}
/-- THE RULE for a def: its body as a term of rules, and the reading of that term -/
theorem Fun.ok {x qual : Str} {st : Stmt} {f : Addr} {fd : FuncData} {N ps : List Str} {k : Nat} {sp : Sp} (F : Fun K x qual st f fd) (S : FnScope N ps (defScope st)) (len : ∀ vs H Q E, sp vs H Q E → vs.length = ps.length)
    (hbody : ∀ (cdv : Value) (A : Around) (outer : List Env) (s : Shared) (H : Hp) (vs : List V) (Q : VK) (E : XK), Room k (A.deeper (envOfC qual (defScope st) s.heap.objs.size f cdv)) → sp vs H Q E →
      ∃ t, PSs (cxOf CX0 P w K mg base N qual (defScope st) f cdv A outer s H E).nox (defBody st) t ∧ t { nx := fun _ H' => Q .non H', rt := Q } (start N vs) H) : FnOk P w K mg base CX0 (k + 1) f fd ps sp := by
  obtain ⟨oc, od, kV, doc, pm, an, cdv, ct, osl, rfl, lk, hcd⟩ := F.ex
  refine fn_of lk hcd S len fun A outer s H vs Q E hr hsp => ?_
  obtain ⟨t, h, q⟩ := hbody cdv A outer s H vs Q E hr hsp
  exact ⟨t, h.nox, q⟩
/-- how its arguments bind (no defaults): h is «fun _ _ _ _ _ _ us hl => match us, hl with | [_, _], _ => rfl», one _ a parameter -/
theorem Fun.binds {x qual : Str} {st : Stmt} {f : Addr} {fd : FuncData} {ps : List Str} (F : Fun K x qual st f fd)
    (h : ∀ (kV doc pm : Value) (an : Option Addr) (cdv ct : Value) (us : List Value), us.length = ps.length → bindArgs (PySem.W.fnOf x qual (defArgs st) (defBody st) (defScope st) .none kV doc pm an cdv ct) ⟨us, []⟩ = pure (ps.zip us)) : Binds K fd ps [] := by
  obtain ⟨oc, od, kV, doc, pm, an, cdv, ct, osl, rfl, lk, hcd⟩ := F.ex
  exact .all (h kV doc pm an cdv ct)
theorem fun_mk {x qual : Str} {st : Stmt} {f : Addr} {oc : Value} {od an : Option Addr} {osl : Array (Option Value)} {kV doc pm cdv ct : Value} (l : K.lookup f = some ⟨oc, od, .func (PySem.W.fnOf x qual (defArgs st) (defBody st) (defScope st) .none kV doc pm an cdv ct), osl⟩)
    (c : PySem.W.codeIn K cdv qual = true) (k : PySem.W.keepIn K (.ref f) = true) : Fun K x qual st f (PySem.W.fnOf x qual (defArgs st) (defBody st) (defScope st) .none kV doc pm an cdv ct) := ⟨⟨oc, od, kV, doc, pm, an, cdv, ct, osl, rfl, l, c⟩, k⟩
end
theorem hu_of {A : Around} {k : Nat} (hr : Room k A) : A.units + 1 < cLine := Nat.lt_of_le_of_lt (Nat.add_le_add_left (by decide : 1 ≤ 64) _) hr.units

/-! ### expressions in short: the name that stands in the i-th slot -/
section
variable {X : Cx}
theorem pv (i : Nat) {x : Str} {pos : Pos} (hN : X.N[i]? = some x := by rfl) (hv : Vis X.env.scope x := by first | exact Or.inl rfl | exact Or.inr (Or.inl rfl) | exact Or.inr (Or.inr rfl)) (hd : (x == ("__debug__" : Str)) = false := by decide)
    (hcd : (x == ("__classdict__" : Str)) = false := by decide) : PE X (.Name x pos) (tVar i) := pe_var hN hv hd hcd
end

/-! ### tests -/
theorem iteF {A B : Prop} (h : B) : if false = true then A else B := by
  rw [if_neg Bool.false_ne_true]
  exact h
theorem iteT {A B : Prop} (h : A) : if true = true then A else B := by
  rw [if_pos rfl]
  exact h
theorem ite2 {c A B : Prop} [Decidable c] (h1 : c → A) (h2 : ¬ c → B) : if c then A else B := by
  by_cases h : c
  · rw [if_pos h]
    exact h1 h
  · rw [if_neg h]
    exact h2 h

/-! ### heaps -/
/-- all that was tracked is as it was -/
def Same (H H' : Hp) : Prop := ∀ b o, H b = some o → H' b = some o
theorem Same.refl (H : Hp) : Same H H := fun _ _ h => h
theorem Same.trans {H H1 H2 : Hp} (a : Same H H1) (b : Same H1 H2) : Same H H2 := fun c o h => b c o (a c o h)
theorem Same.seq {K : PySem.W.Frag} {H H' : Hp} {a : Addr} {xs : List V} (e : Same H H') (h : SqL K H a xs) : SqL K H' a xs := by
  rcases h with (h | ⟨o, h⟩) | h
  · exact .inl (.inl (e _ _ h))
  · exact .inl (.inr ⟨o, e _ _ h⟩)
  · exact .inr h

end L2

namespace L2
open PySem PySem.Spec PyProof.Rows
section
variable {X : Cx}
end
/-! ### a dict's pairs: keys that differ -/
section
variable {κ : Type} [DecidableEq κ]
end
end L2


set_option Elab.async false
set_option linter.all false
set_option maxRecDepth 100000
set_option maxHeartbeats 4000000
namespace L2
open PySem PySem.Spec PyProof.Rows

/-! ### a list comprehension of one clause -/
section
variable {prog : Program} {w : World} {A : Around} {E : Value → Shared → Prop} {R : Result → Shared → Prop} {s : Shared}
theorem compLoop_gen {elt target iter : Expr} {ifs : List Expr} {scope : Scope} {pos : Pos} {it acc : Value} {env : Env} (I : Nat → Shared → Prop)
    (turn : ∀ n s, I n s → wpAny (model prog w) A (pyNext it) (fun r s1 => match r with
      | none => R (.ok .next) s1
      | some v => wpAny (model prog w) A (letOwnedTupleGo target it v) (fun _ s1' => wpAny (model prog w) A (assign target env v) (fun _ s2 =>
          wpAny (model prog w) A (forIn ifs true fun c r => if r = true then do let ok ← isTrue c env (eval c env); pure (ForInStep.yield ok) else pure (ForInStep.yield r)) (fun ok s3 =>
            if ok = true then wpAny (model prog w) A (eval elt env) (fun x s4 =>
              wpAny (model prog w) A (call (.builtin "list.append") [acc, x]) (fun _ s5 => ∃ m, m < n ∧ I m s5) (fun _ _ => False) s4) (fun _ _ => False) s3
            else ∃ m, m < n ∧ I m s3) (fun _ _ => False) s2) (fun _ _ => False) s1') (fun _ _ => False) s1) (fun _ _ => False) s)
    (n : Nat) (h : I n s) :
    codeAny (model prog w) A (.compLoop (.ListComp elt [⟨target, iter, ifs, 0⟩] scope pos) 0 it acc env) R s := by
  refine codeAny_loop rfl I (fun n s hI => ?_) n h
  show wpAny _ A ((compTurn (.ListComp elt [⟨target, iter, ifs, 0⟩] scope pos) 0 it acc env).onRaise (fun x => do noteFrame x env; theTreesLotGoes x)) _ _ s
  refine wpAny_noted ?_
  rw [compTurn_list]
  refine wpAny_bind (wpAny_standAt (wpAny_bind (wpAny_mono (turn n s hI) (fun r s₁ h₁ => ?_) fun _ _ h' => h'.elim)))
  cases r with
  | none => exact wpAny_pure h₁
  | some v =>
    refine wpAny_bind (wpAny_mono h₁ (fun _ s1' h1' => ?_) fun _ _ h' => h'.elim)
    refine wpAny_bind (wpAny_mono h1' (fun _ s₂ h₂ => wpAny_bind (wpAny_mono h₂ (fun ok s₃ h₃ => ?_) fun _ _ h' => h'.elim)) fun _ _ h' => h'.elim)
    cases ok with
    | false => exact wpAny_pure ⟨rfl, h₃⟩
    | true =>
      exact wpAny_bind (wpAny_bind (wpAny_mono h₃ (fun x s₄ h₄ => wpAny_bind (wpAny_mono h₄ (fun _ s₅ h₅ => wpAny_pure (wpAny_pure ⟨rfl, h₅⟩)) fun _ _ h' => h'.elim)) fun _ _ h' => h'.elim))
end

theorem closure_of {env : Env} : ∀ (names : List (Str × NameKind)) (cs : List (Str × Addr)), (∀ n, (n, NameKind.free) ∈ names → ∃ c, env.cells.lookup n = some c) →
    ∃ cl, (forIn names cs fun (x : Str × NameKind) (r : List (Str × Addr)) => match x with
      | (name, kind) => if (kind == NameKind.free) = true then do let c ← cellOf env name; pure (ForInStep.yield ((name, c) :: r)) else pure (ForInStep.yield r) : Sem (List (Str × Addr))) = pure cl ∧
      (∀ p ∈ cl, p ∈ cs ∨ env.cells.lookup p.1 = some p.2) ∧ (∀ p ∈ cs, p ∈ cl) ∧ (∀ n, (n, NameKind.free) ∈ names → ∃ c, (n, c) ∈ cl)
  | [], cs, _ => ⟨cs, by simp, fun p hp => .inl hp, fun p hp => hp, fun n hn => by cases hn⟩
  | (n, k) :: r, cs, h => by
    by_cases hk : (k == NameKind.free) = true
    · have hk' : k = NameKind.free := eq_of_beq hk
      subst hk'
      obtain ⟨c, hc⟩ := h n (List.mem_cons_self)
      obtain ⟨cl, e, h1, h2, h3⟩ := closure_of r ((n, c) :: cs) fun m hm => h m (List.mem_cons_of_mem _ hm)
      refine ⟨cl, ?_, fun p hp => ?_, fun p hp => h2 p (List.mem_cons_of_mem _ hp), fun m hm => ?_⟩
      · rw [List.forIn_cons]
        simp only [hk, if_true]
        unfold cellOf
        rw [hc]
        exact e
      · rcases h1 p hp with q | q
        · rcases List.mem_cons.mp q with q | q
          · subst q; exact .inr hc
          · exact .inl q
        · exact .inr q
      · rcases List.mem_cons.mp hm with q | q
        · cases q; exact ⟨c, h2 _ List.mem_cons_self⟩
        · exact h3 m q
    · obtain ⟨cl, e, h1, h2, h3⟩ := closure_of r cs fun m hm => h m (List.mem_cons_of_mem _ hm)
      refine ⟨cl, ?_, h1, h2, fun m hm => ?_⟩
      · rw [List.forIn_cons]
        simp only [hk]
        exact e
      · rcases List.mem_cons.mp hm with q | q
        · cases q; exact absurd rfl hk
        · exact h3 m q
theorem lookup_mem {κ : Type} [BEq κ] [LawfulBEq κ] {β : Type} : ∀ {l : List (κ × β)} {x : κ} {c : β}, l.lookup x = some c → (x, c) ∈ l
  | [], _, _, h => by simp at h
  | (n, k) :: r, x, c, h => by
    cases hx : x == n with
    | true =>
      simp only [List.lookup_cons, hx] at h
      cases h
      have e := eq_of_beq hx
      subst e
      exact List.mem_cons_self
    | false =>
      simp only [List.lookup_cons, hx] at h
      exact List.mem_cons_of_mem _ (lookup_mem h)
theorem mem_lookup {κ : Type} [BEq κ] [LawfulBEq κ] {β : Type} : ∀ {l : List (κ × β)} {x : κ} {c : β}, (x, c) ∈ l → ∃ c', l.lookup x = some c'
  | (n, k) :: r, x, c, h => by
    cases hx : x == n with
    | true => exact ⟨k, by simp only [List.lookup_cons, hx]⟩
    | false =>
      rcases List.mem_cons.mp h with q | q
      · cases q; simp at hx
      · obtain ⟨c', e⟩ := mem_lookup q
        exact ⟨c', by simp only [List.lookup_cons, hx]; exact e⟩
/-- the closure that a block takes along -/
theorem closure_ok {scope : Scope} {env : Env} (h : ∀ n, (n, NameKind.free) ∈ scope.names → ∃ c, env.cells.lookup n = some c) :
    ∃ cl, closureFor scope env = pure cl ∧ (∀ x c, cl.lookup x = some c → env.cells.lookup x = some c) ∧ ∀ n, (n, NameKind.free) ∈ scope.names → ∃ c, cl.lookup n = some c := by
  obtain ⟨cl, e, h1, _, h3⟩ := closure_of scope.names [] h
  refine ⟨cl, ?_, fun x c hx => ?_, fun n hn => ?_⟩
  · have e2 : closureFor scope env = ((forIn scope.names ([] : List (Str × Addr)) fun (x : Str × NameKind) (r : List (Str × Addr)) => match x with
          | (name, kind) => if (kind == NameKind.free) = true then do let c ← cellOf env name; pure (ForInStep.yield ((name, c) :: r)) else pure (ForInStep.yield r) : Sem (List (Str × Addr))) >>= fun r => pure r) := rfl
    rw [e2, e]
    rfl
  · rcases h1 _ (lookup_mem hx) with q | q
    · cases q
    · exact q
  · obtain ⟨c, hc⟩ := h3 n hn
    exact mem_lookup hc

/-- the context of a comprehension's block: N' its names, ex its iterator's records and its list -/
def compCx (X : Cx) (N' : List Str) (scope : Scope) (cl : List (Str × Addr)) (C : Addr) (ex : List Addr) (s0 : Shared) (H0 : Hp) : Cx :=
  { X with N := N', s₀ := s0, H₀ := H0, env := compEnvC scope cl C X.env, outer := X.stack, stack := X.stack, ex := ex, fn := fun _ => false, pn := [], xe := fun _ _ => False }
end L2

set_option Elab.async false
set_option linter.all false
set_option maxRecDepth 100000
set_option maxHeartbeats 4000000
namespace L2
open PySem PySem.Spec PyProof.Rows
section
variable {X : Cx} {pins : List (Addr × Obj)} {σ : St} {H : Hp} {s : Shared}
/-- an object of ours, not tracked so far, is tracked from here on -/
theorem Inv.track {a : Addr} {o : HO} (I : Inv X pins σ H s) (f : FpOk X pins H a) (new : ObjOk X.prog X.w (upd H a o) s.heap a o) : Inv X pins σ (upd H a o) s := by
  obtain ⟨f0, f1, f2, f3, f4, f5⟩ := f
  have ne : ∀ b u, H b = some u → b ≠ a := fun b u e => ne_of_none e f0
  refine ⟨I.ok, I.os, I.bare, ⟨I.base.keep, I.base.slot, fun b ob e n hx => ?_, I.base.there, fun b xs e => ?_, fun b ob u e => ?_, fun b ps e => ?_⟩, I.loc, I.cell, ?_, fun x c e => ?_, fun p hp => ?_, fun b u e => ?_, I.len⟩
  · have hb : b ≠ a := by
      rintro rfl
      rcases f3 with z | z
      · exact hx z
      · exact absurd (Nat.lt_of_lt_of_le (Heap.lt_size e) z) (Nat.lt_irrefl _)
    rw [upd_ne hb]
    exact I.base.free b ob e n hx
  · have q := I.base.tups b xs e
    rw [upd_ne (ne _ _ q)]; exact q
  · have q := I.base.frzs b ob u e
    rw [upd_ne (ne _ _ q)]; exact q
  · obtain ⟨more, q⟩ := I.base.tbls b ps e
    exact ⟨more, by rw [upd_ne (ne _ _ q)]; exact q⟩
  · rw [upd_ne (Ne.symm f1)]; exact I.free
  · rw [upd_ne (f4 x c e)]; exact I.freeC x c e
  · obtain ⟨e, n, ne', nf, d⟩ := I.pin p hp
    exact ⟨e, by rw [upd_ne (f5 p hp)]; exact n, ne', nf, d⟩
  · by_cases hb : b = a
    · subst hb
      rw [upd_same] at e; cases e
      exact new
    · rw [upd_ne hb] at e
      exact (I.hok b u e).stay (fun c v _ q => q) (fun c q => by rw [upd_ne (ne _ _ q)]; exact q) fun c xs q => by rw [upd_ne (ne _ _ q)]; exact q
end

/-- the tests of a clause -/
def PTs (X : Cx) (ifs : List Expr) (t : TT) : Prop :=
  ∀ (pins : List (Addr × Obj)) (s : Shared) (σ : St) (H : Hp) (Q : Bool → Hp → Prop), Inv X pins σ H s → t σ H Q →
    wpAny (model X.prog X.w) X.A (forIn ifs true fun c r => if r = true then do let ok ← isTrue c X.env (eval c X.env); pure (ForInStep.yield ok) else pure (ForInStep.yield r)) (TP X pins σ Q) X.xe s
def tNoTest : TT := fun _ H Q => Q true H
theorem pts_nil {X : Cx} : PTs X [] tNoTest := fun _ _ _ H _ I h => wpAny_tests_nil ⟨H, I, h⟩
theorem pts_one {X : Cx} {c : Expr} {t : TT} (h : PT X c t) : PTs X [c] t := fun pins s σ H Q I q => wpAny_tests_one (h pins s σ H Q I q)

/-- slot i of the block is slot j of the body (some j), or the block's own (none) -/
def liftSt (src : List (Option Nat)) (σ : St) : St := src.map fun o => match o with | some j => (σ[j]?).getD none | none => none
def tComp (src : List (Option Nat)) (wi : TI) (g : TG) (tt : TT) (te : TE) : TE := fun σ H Q => wi σ H fun J H1 => ∃ W : Nat → Nat → List V → St → Hp → Prop, (∃ m, W 0 m [] (liftSt src σ) H1) ∧ ∀ i m ys σc H, W i m ys σc H →
  (J.stop i H ∧ ∀ l, H l = none → Q (.ref l) (upd H l (.lst ys))) ∨
  (J.go i H ∧ ys.length < sizeLine ∧ ∀ x H', J.yld i H x H' → g x σc H' fun σ2 H2 => tt σ2 H2 fun b H3 =>
    if b = true then te σ2 H3 fun v H4 => ∃ m', m' < m ∧ W (i + 1) m' (ys ++ [v]) σ2 H4 else ∃ m', m' < m ∧ W (i + 1) m' ys σ2 H3)

section
variable {X : Cx} {elt tg iter : Expr} {ifs : List Expr} {scope : Scope} {pos : Pos} {N' : List Str} {src : List (Option Nat)} {wi : TI} {g : TG} {tt : TT} {te : TE}

theorem relabel_free {env : Env} : ∀ {names : List (Str × NameKind)} {x : Str} {k : NameKind}, (names.map fun (n, k) => if (k == NameKind.free && env.scope.kind == .function && env.kindOf n == some .cell) then (n, NameKind.cell) else (n, k)).lookup x = some k →
    (k = .cell ∨ k = .free) → (∀ y ∈ names, y.2 ≠ .cell) → (x, NameKind.free) ∈ names
  | [], _, _, h, _, _ => by simp at h
  | (n, k') :: r, x, k, h, hk, hc => by
    have ih := @relabel_free env r x k
    have h' : List.lookup x ((if (k' == NameKind.free && env.scope.kind == .function && env.kindOf n == some .cell) = true then (n, NameKind.cell) else (n, k')) :: (r.map fun (n, k) => if (k == NameKind.free && env.scope.kind == .function && env.kindOf n == some .cell) then (n, NameKind.cell) else (n, k))) = some k := h
    by_cases hx : x = n
    · subst hx
      by_cases hf : k' = .free
      · subst hf; exact List.mem_cons_self
      · have e : (k' == NameKind.free) = false := by simpa using hf
        rw [e] at h'
        simp only [Bool.false_and, Bool.false_eq_true, if_false, List.lookup_cons, beq_self_eq_true] at h'
        have e' : k' = k := Option.some.inj h'
        rcases hk with q | q
        · exact absurd (e'.trans q) (hc (x, k') List.mem_cons_self)
        · exact absurd (e'.trans q) hf
    · have e : (x == n) = false := by simpa using hx
      have h2 : (r.map fun (n, k) => if (k == NameKind.free && env.scope.kind == .function && env.kindOf n == some .cell) then (n, NameKind.cell) else (n, k)).lookup x = some k := by
        by_cases hc2 : (k' == NameKind.free && env.scope.kind == .function && env.kindOf n == some .cell) = true
        · rw [if_pos hc2] at h'; simp only [List.lookup_cons, e] at h'; exact h'
        · rw [if_neg hc2] at h'; simp only [List.lookup_cons, e] at h'; exact h'
      exact List.mem_cons_of_mem _ (ih h2 hk fun y hy => hc y (List.mem_cons_of_mem _ hy))

/-- what a comprehension's scope must be (each by rfl or decide) -/
structure CompScope (X : Cx) (scope : Scope) (N' : List Str) (src : List (Option Nat)) : Prop where
  kind : scope.kind = .function
  cell : ∀ y ∈ scope.names, y.2 ≠ .cell
  names : ∀ x ∈ scope.names, x.2 = .local → scope.names.lookup x.1 = some .local
  fr : ∀ n, (n, NameKind.free) ∈ scope.names → X.env.kindOf n = some .cell ∨ X.env.kindOf n = some .free
  excl : ∀ n, (n, NameKind.free) ∈ scope.names → ¬ scope.names.lookup n = some .local
  len : N'.length = src.length
  src : ∀ (i j : Nat), src[i]? = some (some j) → ∃ x : Str, N'[i]? = some x ∧ X.N[j]? = some x ∧ (x, NameKind.free) ∈ scope.names

/-- the block's own context, as it is entered -/
theorem comp_enter {cl : List (Str × Addr)} {C D : Addr} {fp : List Addr} {pins : List (Addr × Obj)} {σ : St} {H : Hp} {s3 : Shared} {h1 : Heap} {tk : Nat} (S : CompScope X scope N' src) (I3 : Inv X pins σ H s3)
    (hcl1 : ∀ x c, cl.lookup x = some c → X.env.cells.lookup x = some c) (hcl2 : ∀ n, (n, NameKind.free) ∈ scope.names → ∃ c, cl.lookup n = some c) (hC : C = s3.heap.objs.size)
    (hf : ∀ b ∈ D :: fp, FpOk X pins H b) (hlt : ∀ b ∈ D :: fp, b < s3.heap.objs.size) (hns : h1.Ns C (fun _ => none)) (hk : ∀ b o, s3.heap.get? b = some o → h1.get? b = some o) :
    Inv (compCx X N' scope cl C (D :: fp) s3 H) [] (liftSt src σ) H { s3 with heap := h1, toks := tk } := by
  have neC : ∀ b o, s3.heap.get? b = some o → b ≠ C := fun b o e => by rw [hC]; exact Nat.ne_of_lt (Heap.lt_size e)
  have HC : H C = none := I3.hok.fresh (Nat.le_of_eq hC.symm)
  have ok : (compCx X N' scope cl C (D :: fp) s3 H).Ok := by
    refine ⟨I3.ok.mod, S.kind, I3.ok.glob, I3.ok.blt, Nat.le_of_eq hC.symm, fun x y c e1 e2 => I3.ok.inj x y c (hcl1 x c e1) (hcl1 y c e2), fun x hx => ?_, fun x c z => absurd z Bool.false_ne_true, I3.ok.hd, I3.ok.frames, .inl rfl, fun b hb => ⟨?_, fun x c e => ?_⟩, I3.bs, Nat.le_trans I3.ok.bsz I3.sz, fun b o e hb => ?_, fun b hb => ?_, I3.stack, I3.stkFree⟩
    · refine hcl2 x ?_
      rcases hx with z | z
      · exact relabel_free (env := X.env) (show ((scope.names.map _).lookup x) = some .cell from z) (.inl rfl) S.cell
      · exact relabel_free (env := X.env) (show ((scope.names.map _).lookup x) = some .free from z) (.inr rfl) S.cell
    · show b ≠ C
      rw [hC]; exact Nat.ne_of_lt (hlt b hb)
    · exact (hf b hb).2.2.2.2.1 x c (hcl1 x c e)
    · rcases (hf b hb).2.2.2.1 with z | z
      · exact I3.ok.noex b o e z
      · exact absurd (Nat.lt_of_lt_of_le (Nat.lt_of_lt_of_le (Heap.lt_size e) I3.ok.bsz) z) (Nat.lt_irrefl _)
    · intro z
      have z' : b ∈ frs X.stack := z
      rcases List.mem_cons.mp (I3.stkSub b z') with q | q
      · exact (hf b hb).2.1 q
      · exact (hf b hb).2.2.1 q
  refine ⟨ok, rfl, I3.bare, Un.kept hk, ⟨_, hns, fun i x v e1 e2 e3 => ?_⟩, fun x c e => ?_, HC, fun x c e => I3.freeC x c (hcl1 x c e), fun p hp => absurd (show p ∈ ([] : List (Addr × Obj)) from hp) (by simp), I3.hok.kept hk, ?_⟩
  · have e2' : (src.map fun o => match o with | some j => (σ[j]?).getD none | none => none)[i]? = some (some v) := e2
    rw [List.getElem?_map] at e2'
    cases q : src[i]? with
    | none => rw [q] at e2'; cases e2'
    | some o =>
      rw [q] at e2'
      cases o with
      | none => cases e2'
      | some j =>
        obtain ⟨x', hx1, hx2, hx3⟩ := S.src i j q
        have ex : x' = x := Option.some.inj (hx1.symm.trans e1)
        subst ex
        have ev : σ[j]? = some (some v) := by
          cases q2 : σ[j]? with
          | none => simp [q2] at e2'
          | some o => simp [q2] at e2'; rw [e2']
        obtain ⟨m, hn, hl⟩ := I3.loc
        have hkind := S.fr x' hx3
        obtain ⟨u, r, l⟩ := hl j x' v hx2 ev (by
          rcases hkind with z | z
          · exact .inr (.inl z)
          · exact .inr (.inr z))
        refine ⟨u, r, .inr ⟨?_, ?_⟩⟩
        · rcases e3 with z | z | z
          · exfalso
            have z' : (scope.names.map fun (n, k) => if (k == NameKind.free && X.env.scope.kind == .function && X.env.kindOf n == some .cell) then (n, NameKind.cell) else (n, k)).lookup x' = some .local := z
            rcases l with ⟨k, _⟩ | ⟨_, c, hc, hcell⟩
            · rcases hkind with y | y <;> (rw [y] at k; cases k)
            · exact (show False by
                have := S.names
                have hm := hx3
                clear e2 e2'
                have key : ∀ (names : List (Str × NameKind)), (names.map fun (n, k) => if (k == NameKind.free && X.env.scope.kind == .function && X.env.kindOf n == some .cell) then (n, NameKind.cell) else (n, k)).lookup x' = some .local →
                    names.lookup x' = some .local := by
                  intro names
                  induction names with
                  | nil => intro h; simp at h
                  | cons y r ih =>
                    obtain ⟨n, k⟩ := y
                    intro h
                    have h' : List.lookup x' ((if (k == NameKind.free && X.env.scope.kind == .function && X.env.kindOf n == some .cell) = true then (n, NameKind.cell) else (n, k)) :: (r.map fun (n, k) => if (k == NameKind.free && X.env.scope.kind == .function && X.env.kindOf n == some .cell) then (n, NameKind.cell) else (n, k))) = some .local := h
                    by_cases hx : (x' == n) = true
                    · by_cases hc2 : (k == NameKind.free && X.env.scope.kind == .function && X.env.kindOf n == some .cell) = true
                      · rw [if_pos hc2] at h'; simp only [List.lookup_cons, hx] at h'; cases h'
                      · rw [if_neg hc2] at h'; simp only [List.lookup_cons, hx] at h' ⊢; exact h'
                    · have hx' : (x' == n) = false := by simpa using hx
                      by_cases hc2 : (k == NameKind.free && X.env.scope.kind == .function && X.env.kindOf n == some .cell) = true
                      · rw [if_pos hc2] at h'; simp only [List.lookup_cons, hx'] at h' ⊢; exact ih h'
                      · rw [if_neg hc2] at h'; simp only [List.lookup_cons, hx'] at h' ⊢; exact ih h'
                have z2 := key _ z'
                obtain ⟨c2, hc2⟩ := hcl2 x' hx3
                exact S.excl x' hx3 z2)
          · exact .inl z
          · exact .inr z
        · rcases l with ⟨k, _⟩ | ⟨_, c, hc, hcell⟩
          · rcases hkind with y | y <;> (rw [y] at k; cases k)
          · obtain ⟨c2, hc2⟩ := hcl2 x' hx3
            have e := hcl1 x' c2 hc2
            rw [hc] at e; cases e
            obtain ⟨oc, ho, hd⟩ := hcell
            exact ⟨c, hc2, oc, hk c oc ho, hd⟩
  · obtain ⟨v, oc, ho, hd⟩ := I3.cell x c (hcl1 x c e)
    exact ⟨v, oc, hk c oc ho, hd⟩
  · show (src.map _).length = N'.length
    rw [List.length_map, S.len]

/-- what stands behind the block: the list is tracked, the block's names are let go -/
theorem comp_leave {cl : List (Str × Addr)} {C D : Addr} {fp : List Addr} {pins pinsY : List (Addr × Obj)} {σ σc : St} {H H' : Hp} {s3 s4 : Shared} {h' : Heap} {ys : List V} {us : List Value} (I3 : Inv X pins σ H s3) (hC : C = s3.heap.objs.size)
    (hf : ∀ b ∈ D :: fp, FpOk X pins H b) (hlt : ∀ b ∈ D :: fp, b < s3.heap.objs.size) (IY : Inv (compCx X N' scope cl C (D :: fp) s3 H) pinsY σc H' s4) (hD : H' D = none) (pl : s4.heap.PlainList D us.toArray) (rv : Vals ys us) (hz : ys.length ≤ sizeLine)
    (hs : Heap.SameBut C s4.heap h') : Inv X pins σ (upd H' D (.lst ys)) { s4 with heap := h' } := by
  have J : Inv X pins σ H' s4 := I3.call' IY.os IY.base IY.hok IY.bare (ch := D :: fp) fun b hb => ⟨(hf b hb).2.2.2.1, (hf b hb).2.1, (hf b hb).2.2.2.2.1, (hf b hb).2.2.2.2.2⟩
  have fC : FpOk X pins H' C := I3.fpOk (Nat.le_of_eq hC.symm) IY.free
  have J2 : Inv X pins σ H' { s4 with heap := h' } := J.turned (t' := s4.toks) (fun b o hb e => (hs.2 b hb).trans e) fC.1 fC.2.1 fC.2.2.2.1 fC.2.2.2.2.1 fC.2.2.2.2.2
  have hDC : D ≠ C := by rw [hC]; exact Nat.ne_of_lt (hlt D List.mem_cons_self)
  obtain ⟨n, e⟩ := pl
  have fD := hf D List.mem_cons_self
  exact J2.track ⟨hD, fD.2⟩ ⟨hz, us, n, rv, (hs.2 D hDC).trans e⟩

theorem comp_run {cl : List (Str × Addr)} {C D it : Addr} {fp : List Addr} {tn : Nat → Heap → Prop} {J : It} {pins : List (Addr × Obj)} {σ σ0 : St} {H : Hp} {s3 s4 : Shared} {R : Result → Shared → Prop} {W : Nat → Nat → List V → St → Hp → Prop} {m0 : Nat} {Q : List V → Hp → Prop}
    (hc : X.calm = true) (T : Turn X.prog X.w X.K tg J fp it tn) (I3 : Inv X pins σ H s3) (hC : C = s3.heap.objs.size)
    (hf : ∀ b ∈ D :: fp, FpOk X pins H b) (hlt : ∀ b ∈ D :: fp, b < s3.heap.objs.size) (hDf : D ∉ fp) (IY : Inv (compCx X N' scope cl C (D :: fp) s3 H) [] σ0 H s4) (st : tn 0 s4.heap) (pl : s4.heap.PlainList D #[])
    (hg : PG (compCx X N' scope cl C (D :: fp) s3 H) tg g) (ht : PTs (compCx X N' scope cl C (D :: fp) s3 H) ifs tt) (he : PE (compCx X N' scope cl C (D :: fp) s3 H) elt te) (w0 : W 0 m0 [] σ0 H)
    (turn : ∀ i m ys σc H, W i m ys σc H → (J.stop i H ∧ Q ys H) ∨ (J.go i H ∧ ys.length < sizeLine ∧ ∀ x H', J.yld i H x H' → g x σc H' fun σ2 H2 => tt σ2 H2 fun b H3 =>
      if b = true then te σ2 H3 fun v H4 => ∃ m', m' < m ∧ W (i + 1) m' (ys ++ [v]) σ2 H4 else ∃ m', m' < m ∧ W (i + 1) m' ys σ2 H3))
    (fin : ∀ s5 σc H' ys us pinsY, Inv (compCx X N' scope cl C (D :: fp) s3 H) pinsY σc H' s5 → H' D = none → s5.heap.PlainList D us.toArray → Vals ys us → ys.length ≤ sizeLine → Q ys H' → R (.ok .next) s5) :
    codeAny (model X.prog X.w) X.A (.compLoop (.ListComp elt [⟨tg, iter, ifs, 0⟩] scope pos) 0 (.ref it) (.ref D) (compEnvC scope cl C X.env)) R s4 := by
  have eY : (compCx X N' scope cl C (D :: fp) s3 H).env = compEnvC scope cl C X.env := rfl
  generalize hY : compCx X N' scope cl C (D :: fp) s3 H = Y at *
  have e1 : Y.prog = X.prog := by rw [← hY]; rfl
  have e2 : Y.w = X.w := by rw [← hY]; rfl
  have e3 : Y.K = X.K := by rw [← hY]; rfl
  have e4 : Y.A = X.A := by rw [← hY]; rfl
  have e5 : Y.calm = true := by rw [← hY]; exact hc
  have e6 : Y.xe = fun _ _ => False := by rw [← hY]; rfl
  have e7 : Y.env.locals = C := by rw [eY]; rfl
  have e8 : Y.ex = D :: fp := by rw [← hY]; rfl
  have e9 : Y.pn = [] := by rw [← hY]; rfl
  have e10 : Y.fs = frs X.stack := by rw [← hY]; rfl
  have e11 : ∀ x c, Y.env.cells.lookup x = some c → ∀ b ∈ D :: fp, c ≠ b := fun x c e b hb => (IY.ok.exf b (by rw [e8]; exact hb)).2 x c e
  have nst : ∀ b ∈ D :: fp, b ∉ Y.fs := fun b hb => IY.ok.exfs b (by rw [e8]; exact hb)
  have fpY : ∀ (pinsY : List (Addr × Obj)) (H' : Hp), (∀ p ∈ pinsY, p.1 = D) → ∀ b ∈ fp, H' b = none → FpOk Y pinsY H' b := fun pinsY H' hp b hb hn =>
    ⟨hn, by rw [e7, hC]; exact Nat.ne_of_lt (hlt b (List.mem_cons_of_mem _ hb)), nst b (List.mem_cons_of_mem _ hb), .inl (by rw [e8]; exact List.mem_cons_of_mem _ hb), fun x c e => e11 x c e b (List.mem_cons_of_mem _ hb), fun p hp' z => by
      rw [e9, List.nil_append] at hp'
      have q := hp p hp'
      rw [z] at q
      rw [q] at hb
      exact hDf hb⟩
  have fpD : ∀ (pinsY : List (Addr × Obj)) (H' : Hp), (∀ p ∈ pinsY, p.1 ≠ D) → H' D = none → FpOk Y pinsY H' D := fun pinsY H' hp hn =>
    ⟨hn, by rw [e7, hC]; exact Nat.ne_of_lt (hlt D List.mem_cons_self), nst D List.mem_cons_self, .inl (by rw [e8]; exact List.mem_cons_self), fun x c e => e11 x c e D List.mem_cons_self, fun p hp' => by
      rw [e9, List.nil_append] at hp'
      exact hp p hp'⟩
  have T' : Turn Y.prog Y.w Y.K tg J fp it tn := by rw [e1, e2, e3]; exact T
  rw [← eY, ← e1, ← e2, ← e4]
  refine compLoop_gen (fun n s' => ∃ i ys us σc H', Inv Y [] σc H' s' ∧ tn i s'.heap ∧ (∀ b ∈ fp, H' b = none) ∧ H' D = none ∧ s'.heap.PlainList D (us : List Value).toArray ∧ Vals ys us ∧ ys.length ≤ sizeLine ∧ W i n ys σc H') ?_ m0
    ⟨0, [], [], σ0, H, IY, st, fun b hb => (hf b (List.mem_cons_of_mem _ hb)).1, (hf D List.mem_cons_self).1, pl, .nil, Nat.zero_le _, w0⟩
  rintro n s5 ⟨i, ys, us, σc, H5, I5, st5, fr5, hD5, pl5, rv5, hz5, w5⟩
  obtain ⟨nn, hob⟩ := id pl5
  -- D is pinned as it stands
  have I5' : Inv Y [(D, { cls := .type "list", data := .seq us.toArray nn })] σc H5 s5 := I5.pins_of fun p hp => by
    rw [List.mem_singleton] at hp
    subst hp
    exact ⟨hob, hD5, by rw [e7, hC]; exact Nat.ne_of_lt (hlt D List.mem_cons_self), nst D List.mem_cons_self, fun v z => by
      have z' : Data.seq us.toArray nn = Data.cell v := z
      cases z'⟩
  have f5 : ∀ b ∈ fp, FpOk Y [(D, { cls := .type "list", data := .seq us.toArray nn })] H5 b := fun b hb => fpY _ _ (fun p hp => by rw [List.mem_singleton] at hp; rw [hp]) b hb (fr5 b hb)
  rcases turn i n ys σc H5 w5 with ⟨stop, q⟩ | ⟨go, hz, step⟩
  · refine thn (T'.done Y rfl rfl rfl e5 i _ s5 σc H5 (fun _ _ => False) I5' f5 st5 stop) fun r s6 ⟨hr, I6⟩ => ?_
    subst hr
    exact fin s6 σc H5 ys us _ I6 hD5 ⟨nn, (I6.pin (D, _) (List.mem_append_right _ List.mem_cons_self)).1⟩ rv5 hz5 q
  · refine thn (T'.item Y rfl rfl rfl e5 i _ s5 σc H5 (fun _ _ => False) I5' f5 st5 go) fun r s6 ⟨u, hr, h6⟩ => ?_
    subst hr
    refine thn h6 fun _ s7 ⟨x, H7, I7, r7, y7, st7, fr7⟩ => ?_
    have f7 : ∀ b ∈ fp, FpOk Y [(D, { cls := .type "list", data := .seq us.toArray nn })] H7 b := fun b hb => fpY _ _ (fun p hp => by rw [List.mem_singleton] at hp; rw [hp]) b hb (fr7 b hb)
    have I7' := I7.pinned f7 (T.obj _ _ st7)
    have hx := hg _ s7 σc H7 x u _ I7' r7 (step x H7 y7)
    rw [e6] at hx
    refine thn hx fun _ s8 ⟨σ8, H8, I8, q8⟩ => ?_
    have hx2 := ht _ s8 σ8 H8 _ I8 q8
    rw [e6] at hx2
    -- behind a turn: the records stand as they stood
    have keepT : ∀ {σ9 : St} {H9 : Hp} {s9 : Shared}, Inv Y ([(D, { cls := .type "list", data := .seq us.toArray nn })] ++ pinsAt fp s7.heap) σ9 H9 s9 → tn (i + 1) s9.heap ∧ (∀ b ∈ fp, H9 b = none) ∧ H9 D = none ∧ s9.heap.get? D = some { cls := .type "list", data := .seq us.toArray nn } := fun {σ9 H9 s9} I9 => by
      have pD := I9.pin (D, _) (List.mem_append_right _ (List.mem_append_left _ List.mem_cons_self))
      refine ⟨T.keep _ _ _ st7 fun b hb o e => (I9.pin (b, o) (List.mem_append_right _ (List.mem_append_right _ (mem_pinsAt hb e)))).1, fun b hb => ?_, pD.2.1, pD.1⟩
      obtain ⟨o, e, d⟩ := T.obj _ _ st7 b hb
      exact (I9.pin (b, o) (List.mem_append_right _ (List.mem_append_right _ (mem_pinsAt hb e)))).2.1
    refine thn hx2 fun ok s9 ⟨H9, I9, q9⟩ => ?_
    cases ok with
    | false =>
      rw [if_neg Bool.false_ne_true] at q9
      rw [if_neg Bool.false_ne_true]
      obtain ⟨m', hm, w9⟩ := q9
      obtain ⟨k1, k2, k3, k4⟩ := keepT I9
      exact ⟨m', hm, i + 1, ys, us, σ8, H9, I9.pins_of (fun p hp => nomatch hp), k1, k2, k3, ⟨nn, k4⟩, rv5, hz5, w9⟩
    | true =>
      rw [if_pos rfl] at q9
      rw [if_pos rfl]
      have hx3 := he _ s9 σ8 H9 _ I9 q9
      rw [e6] at hx3
      refine thn hx3 fun xv s10 ⟨v, H10, I10, r10, m', hm, w10⟩ => ?_
      obtain ⟨k1, k2, k3, k4⟩ := keepT I10
      have hl := rv5.length
      refine wpAny_list_append_plain ⟨nn, k4⟩ (fun h' pl' sb => ?_) (by rw [List.size_toArray]; omega)
      have fD := fpD [] H10 (fun p hp => nomatch hp) k3
      have I11 : Inv Y [] σ8 H10 { s10 with heap := h' } := (I10.pins_of (pins' := []) fun p hp => nomatch hp).turned (t' := s10.toks) (fun b o hb e => (sb.2 b hb).trans e) fD.1 fD.2.1 fD.2.2.2.1 fD.2.2.2.2.1 fD.2.2.2.2.2
      refine ⟨m', hm, i + 1, ys ++ [v], us ++ [xv], σ8, H10, I11, T.keep _ _ _ k1 (fun b hb o e => (sb.2 b ?_).trans e), k2, k3, ?_, rv5.append (.cons r10 .nil), ?_, w10⟩
      · intro z; rw [z] at hb; exact hDf hb
      · rw [show (us ++ [xv]).toArray = us.toArray.push xv by simp]; exact pl'
      · rw [List.length_append, List.length_singleton]; exact hz

/-- [elt for tg in iter if ..] -/
theorem pe_comp (hc : X.calm = true) (S : CompScope X scope N' src) (hi : PI X tg iter wi)
    (hb : ∀ cl C ex s0 H0, PG (compCx X N' scope cl C ex s0 H0) tg g ∧ PTs (compCx X N' scope cl C ex s0 H0) ifs tt ∧ PE (compCx X N' scope cl C ex s0 H0) elt te)
    (hs : ∀ x, foldedSetIterable iter X.env x = pure x := by intro _; rfl) : PE X (.ListComp elt [⟨tg, iter, ifs, 0⟩] scope pos) (tComp src wi g tt te) := by
  intro pins s σ H Q I h
  obtain ⟨cl, hclos, hcl1, hcl2⟩ := closure_ok (scope := scope) (env := X.env) fun n hn => I.ok.has n (S.fr n hn)
  rw [eval_ListComp]
  refine wpAny_comprehension_free (use := none) rfl hs hclos S.kind S.names ?_
  refine thn (hi pins s σ H _ I h) fun v s1 h1 => thn h1 fun itv s2 h2 => ?_
  obtain ⟨it, fp, tn, J, H2, e, I2, T, st2, f2, W, ⟨m0, w0⟩, turn⟩ := h2
  subst e
  refine wpAny_newObj_type (wpAny_newFunctionEnv S.cell (by intro y hy; simp at hy) (fun h₁ hns₁ hsb₁ => ?_) S.kind)
  dsimp only at hns₁ hsb₁ ⊢
  generalize hH3 : s2.heap.push { cls := .type "list", dict := none, data := .seq ([] : List Value).toArray } = H3 at hns₁ hsb₁ ⊢
  have hsz : H3.objs.size = s2.heap.objs.size + 1 := by rw [← hH3, Heap.size_push]
  have I3 : Inv X pins σ H2 { s2 with heap := H3 } := I2.kept (t' := s2.toks) fun b o e => by rw [← hH3]; exact Heap.get?_push_of_some _ e
  have fD : FpOk X pins H2 s2.heap.objs.size := I2.fpOk (Nat.le_refl _) (I2.hok.fresh (Nat.le_refl _))
  have hDf : s2.heap.objs.size ∉ fp := fun hm => by
    obtain ⟨o, e, _⟩ := T.obj 0 _ st2 _ hm
    exact Nat.lt_irrefl _ (Heap.lt_size e)
  have hf : ∀ b ∈ s2.heap.objs.size :: fp, FpOk X pins H2 b := fun b hb => by
    rcases List.mem_cons.mp hb with z | z
    · rw [z]; exact fD
    · exact f2 b z
  have hlt : ∀ b ∈ s2.heap.objs.size :: fp, b < H3.objs.size := fun b hb => by
    rcases List.mem_cons.mp hb with z | z
    · rw [z, hsz]; exact Nat.lt_succ_self _
    · obtain ⟨o, e, _⟩ := T.obj 0 _ st2 b z
      rw [hsz]; exact Nat.lt_succ_of_lt (Heap.lt_size e)
  have kp : ∀ b o, H3.get? b = some o → h₁.get? b = some o := fun b o e => hsb₁.extBut b o (Nat.ne_of_lt (Heap.lt_size e)) (Heap.get?_push_of_some _ e)
  have kp0 : ∀ b o, s2.heap.get? b = some o → h₁.get? b = some o := fun b o e => kp b o (by rw [← hH3]; exact Heap.get?_push_of_some _ e)
  have hacc : h₁.PlainList s2.heap.objs.size #[] := ⟨_, kp _ _ (by rw [← hH3]; exact Heap.get?_push_size _ rfl)⟩
  have st1 : tn 0 h₁ := T.keep _ _ _ st2 fun b _ o e => kp0 b o e
  have IY := comp_enter (N' := N') (src := src) (scope := scope) (cl := cl) (C := H3.objs.size) (D := s2.heap.objs.size) (fp := fp) (s3 := { s2 with heap := H3 }) (h1 := h₁) (tk := s2.toks) S I3 hcl1 hcl2 rfl hf hlt hns₁ kp
  obtain ⟨hg, ht, he⟩ := hb cl H3.objs.size (s2.heap.objs.size :: fp) { s2 with heap := H3 } H2
  have loop := comp_run (R := compPost (model X.prog X.w) X.A X.xe none (EP X pins σ Q) (.ref s2.heap.objs.size) H3.objs.size) (elt := elt) (iter := iter) (ifs := ifs) (pos := pos) (Q := fun ys H => ∀ l, H l = none → Q (.ref l) (upd H l (.lst ys)))
    hc T I3 rfl hf hlt hDf IY st1 hacc hg ht he w0 turn (fun s5 σc H' ys us pinsY IY5 hD pl rv hz q => by
      obtain ⟨m, hn, _⟩ := IY5.loc
      refine ⟨m, hn, fun h' hs' => ⟨.ref s2.heap.objs.size, upd H' s2.heap.objs.size (.lst ys), ?_, rfl, q _ hD⟩⟩
      exact comp_leave I3 rfl hf hlt IY5 hD pl rv hz hs')
  exact codeAny_compStart_list loop (T.self _ 0 _ _ _ st1 loop)
end
end L2

set_option Elab.async false
set_option linter.all false
set_option maxRecDepth 100000
set_option maxHeartbeats 4000000
namespace L2
open PySem PySem.Spec PyProof.Rows

/-! ### a text, sign by sign -/
def Its (x : Str) : It := ⟨fun i _ => i < x.cps.size, fun i H v H' => H' = H ∧ ∃ c, x.cps[i]? = some c ∧ v = .str ⟨#[c]⟩, fun i _ => i = x.cps.size⟩
theorem turn_str {P : Program} {w : World} {K : PySem.W.Frag} {tg : Expr} {it : Addr} {x : Str} {t : Tok} {ty : String} (hty : ["enumerate", "zip", "dict_itemiterator", "dict_reverseitemiterator", "odict_iterator", "itertools.zip_longest", "itertools.pairwise"].contains ty = false)
    (W : ∀ A : Around, A.handled = none → Walks P w A it [it] [it] x.cps.size (SignAt x) (fun i h => h.IsStrIter it ty x t i))
    (self : ∀ (A : Around) (i : Nat) (s : Shared) (Q : Value → Shared → Prop) (E : Value → Shared → Prop), s.heap.IsStrIter it ty x t i → Q (.ref it) s → wpAny (model P w) A (pyIter (.ref it)) Q E s) :
    Turn P w K tg (Its x) [it] it (fun i h => h.IsStrIter it ty x t i) where
  mem := by simp
  obj := fun i h st b hb => by
    have e : b = it := by simpa using hb
    subst e
    obtain ⟨o, e, c, d⟩ := st
    exact ⟨o, e, fun v z => by rw [d] at z; cases z⟩
  keep := fun i h h' st k => by
    obtain ⟨o, e, r⟩ := st
    exact ⟨o, k it (by simp) o e, r⟩
  item := by
    intro X hP hw hK hc i pins s σ H E I hf st hg
    subst hP hw hK
    obtain ⟨f0, f1, f2, f3, f4, f5⟩ := hf it (by simp)
    refine (W X.A (I.ok.hd hc)).item i s _ _ hg st fun v h' tk hv st' kk => ?_
    obtain ⟨c, u, hcx, rfl⟩ := hv
    have I1 : Inv X pins σ H { s with heap := h', toks := tk } := I.turned (fun b o hb e => kk b o (by simpa using hb) e) f0 f1 f3 f4 f5
    obtain ⟨o, e, hcl, hd⟩ := id st'
    exact ⟨_, rfl, go_of (s := { s with heap := h', toks := tk }) e hcl hd hty ⟨.str ⟨#[c]⟩, H, I1, ⟨u, rfl⟩, ⟨rfl, c, hcx, rfl⟩, st', fun b hb => (hf b hb).1⟩⟩
  done := by
    intro X hP hw hK hc i pins s σ H E I hf st hg
    subst hP hw hK
    obtain ⟨f0, f1, f2, f3, f4, f5⟩ := hf it (by simp)
    have hi : i = x.cps.size := hg
    subst hi
    exact (W X.A (I.ok.hd hc)).done s _ _ st fun h' tk kk => ⟨rfl, I.turned (fun b o hb e => kk b o (by simpa using hb) e) f0 f1 f3 f4 f5⟩
  self := self
section
variable {X : Cx} {tg : Expr}
def iStr (tl : TE) : TI := fun σ H R => tl σ H fun x H1 => ∃ z, x = .str z ∧ R (Its z) H1
theorem pi_str {l : Expr} {tl : TE} (hl : PE X l tl) : PI X tg l (iStr tl) := by
  intro pins s σ H R I h
  refine thn (hl pins s σ H _ I h) fun v s1 ⟨x, H1, I1, r1, q1⟩ => ?_
  obtain ⟨z, e, q⟩ := q1
  subst e
  obtain ⟨t, rfl⟩ := r1
  cases ha : z.cps.all (· < 128) with
  | false =>
    refine wpAny_pyIter_wide ha ?_
    refine ⟨s1.heap.objs.size, [s1.heap.objs.size], _, _, H1, rfl, I1.kept (t' := s1.toks) fun b o e => Heap.get?_push_of_some _ e, turn_str (ty := "str_iterator") (t := t) (by decide) (fun A hA => Walks.strWide hA _ z t) (fun A i s Q E st h => wpAny_pyIter_striter_wide st h), ⟨_, Heap.get?_push_size _ rfl, rfl, rfl⟩, fun b hb => ?_, q⟩
    have e : b = s1.heap.objs.size := by simpa using hb
    subst e
    exact I1.fpOk (Nat.le_refl _) (I1.hok.fresh (Nat.le_refl _))
  | true =>
    refine wpAny_pyIter_ascii ha ?_
    refine ⟨s1.heap.objs.size, [s1.heap.objs.size], _, _, H1, rfl, I1.kept (t' := s1.toks) fun b o e => Heap.get?_push_of_some _ e, turn_str (ty := "str_ascii_iterator") (t := t) (by decide) (fun A hA => Walks.strAscii hA _ z t) (fun A i s Q E st h => wpAny_pyIter_striter_ascii st h), ⟨_, Heap.get?_push_size _ rfl, rfl, rfl⟩, fun b hb => ?_, q⟩
    have e : b = s1.heap.objs.size := by simpa using hb
    subst e
    exact I1.fpOk (Nat.le_refl _) (I1.hok.fresh (Nat.le_refl _))

/-! ### comparisons of texts -/
theorem op_le_str : OpR X (compareOp .LtE) (fun x y H Q => ∃ i j, x = .str i ∧ y = .str j ∧ Q (.bl (!decide (j.cps.toList < i.cps.toList))) H) := by
  intro pins s σ H x y v u Q I rx ry h
  obtain ⟨i, j, rfl, rfl, q⟩ := h
  obtain ⟨t, rfl⟩ := rx
  obtain ⟨t', rfl⟩ := ry
  exact PySem.P.le_str ⟨.bl _, H, I, rfl, q⟩

/-! ### a slice of a text -/
def rSlS : V → Option Int → Option Int → Hp → VK → Prop := fun x lo hi H Q => ∃ z, x = .str z ∧ z.length ≤ sizeLine ∧ Q (.str (Txt.slice z lo hi)) H
theorem sl_str : SlR X rSlS := by
  intro pins s σ H x v vl vu lo hi sl Q I rx hs pl pu h
  obtain ⟨z, rfl, hz, q⟩ := h
  obtain ⟨t, rfl⟩ := rx
  refine ⟨"str", _, F.slot_str_getitem.lookup, typeIs_str _ _ _, ?_⟩
  obtain ⟨os, hos, hcs, hds⟩ := id hs
  have fin : ∀ t' k, EP X pins σ Q (.str (Txt.slice z lo hi) t') { s with toks := k } := fun t' k => ⟨.str _, H, I.tok _, ⟨_, rfl⟩, q⟩
  cases pl with
  | none =>
    cases pu with
    | none => exact wpAny_getItem_str_slice (l := none) (u := none) (st := none) ⟨os, hos, hcs, hds⟩ rfl (post_val_or_str ⟨Nat.le_trans (Txt.slice_le z _ _) hz, fin⟩)
    | int j uj => exact wpAny_getItem_str_slice (l := none) (u := some (j, uj)) (st := none) ⟨os, hos, hcs, hds⟩ rfl (post_val_or_str ⟨Nat.le_trans (Txt.slice_le z _ _) hz, fin⟩)
  | int i ui =>
    cases pu with
    | none => exact wpAny_getItem_str_slice (l := some (i, ui)) (u := none) (st := none) ⟨os, hos, hcs, hds⟩ rfl (post_val_or_str ⟨Nat.le_trans (Txt.slice_le z _ _) hz, fin⟩)
    | int j uj => exact wpAny_getItem_str_slice (l := some (i, ui)) (u := some (j, uj)) (st := none) ⟨os, hos, hcs, hds⟩ rfl (post_val_or_str ⟨Nat.le_trans (Txt.slice_le z _ _) hz, fin⟩)

/-! ### isinstance by a built-in class -/
theorem call_isinst : CallR X (.builtin "isinstance") (fun xs H Q => ∃ x T ty b, xs = [x, .ty T] ∧ TyOf X.K H x ty ∧ PySem.W.kitOne X.K ty (.type T) = some b ∧ Q (.bl b) H) := by
  intro pins s σ H xs us Q I r h
  obtain ⟨x, T, ty, b, rfl, h1, h2, q⟩ := h
  obtain ⟨u, w', rfl, rx, rT⟩ := vals2 r
  cases (show w' = Value.type T from rT)
  exact isinst_ok I rx h1 h2 fun tk => ⟨.bl b, H, I.tok _, rfl, q⟩

/-! ### all, any of a list of truths -/
theorem boolsAre : ∀ {bs : List Bool} {us : List Value}, Vals (bs.map V.bl) us → us = bs.map Value.bool
  | [], us, r => by cases r; rfl
  | b :: bs, us, r => by
    cases r with
    | cons r1 r2 => cases r1; rw [boolsAre r2]; rfl
theorem range_all' (bs : List Bool) : ((List.range bs.length).all fun i => (bs[i]?).getD true) = bs.all id := by
  rw [Bool.eq_iff_iff, List.all_eq_true, List.all_eq_true]
  constructor
  · intro h b hb
    obtain ⟨i, hi, rfl⟩ := List.getElem_of_mem hb
    have := h i (List.mem_range.mpr hi)
    simpa [List.getElem?_eq_getElem hi] using this
  · intro h i hi
    have hi' := List.mem_range.mp hi
    rw [List.getElem?_eq_getElem hi']
    exact h _ (List.getElem_mem hi')
theorem call_all_of (hc : X.calm = true) : CallR X (.builtin "all") (fun xs H Q => ∃ (p : Addr) (bs : List Bool), xs = [.ref p] ∧ SqL X.K H p (bs.map V.bl) ∧ Q (.bl (bs.all id)) H) := by
  intro pins s σ H xs us Q I r h
  obtain ⟨p, bs, rfl, hq, q⟩ := h
  obtain ⟨u, rfl, rx⟩ := vals1 r
  cases rx
  obtain ⟨its, r', pl, hz⟩ := I.list hq
  have e := boolsAre r'
  subst e
  have hlt : p < s.heap.objs.size := by obtain ⟨_, e, _⟩ := pl.isList; exact Heap.lt_size e
  refine call_all_walk (wpAny_pyIter_list pl.isList ?_)
  refine ⟨s.heap.objs.size, [s.heap.objs.size, p], [s.heap.objs.size], (bs.map Value.bool).toArray.size, _, _, fun i => (bs[i]?).getD true, rfl, Walks.list (A := X.A.in1) (I.ok.hd hc) _ p (Nat.ne_of_lt hlt) (bs.map Value.bool).toArray,
    ⟨⟨_, Heap.get?_push_size _ rfl, rfl, rfl⟩, pl.isList.push _⟩, fun i v s' Q' E' hP hQ => ?_, fun h' tk hk => ?_⟩
  · have hP' : (bs.map Value.bool)[i]? = some v := by simpa using hP
    rw [List.getElem?_map] at hP'
    cases e : bs[i]? with
    | none => rw [e] at hP'; cases hP'
    | some b =>
      rw [e] at hP'
      cases hP'
      simp only [e, Option.getD_some] at hQ
      exact wpAny_truthy_bool hQ
  · have e : ((List.range (bs.map Value.bool).toArray.size).all fun i => (bs[i]?).getD true) = bs.all id := by
      rw [List.size_toArray, List.length_map]; exact range_all' bs
    rw [e]
    refine ⟨.bl _, H, I.kept fun b o eb => hk b o ?_ (Heap.get?_push_of_some _ eb), rfl, q⟩
    intro z
    rw [List.mem_singleton.mp z] at eb
    exact Nat.lt_irrefl _ (Heap.lt_size eb)

/-! ### == of two lists of flat items -/
def eqVs (xs ys : List V) : Bool := xs.length == ys.length && (List.range xs.length).all fun j => eqV (xs.getD j .non) (ys.getD j .non)
theorem op_eq_list (hu : X.A.units < cLine) : OpR X (compareOp .Eq) (fun x y H Q => ∃ a b xs ys, x = .ref a ∧ y = .ref b ∧ SqL X.K H a xs ∧ SqL X.K H b ys ∧ xs.all flatV = true ∧ ys.all flatV = true ∧ Q (.bl (eqVs xs ys)) H) := by
  intro pins s σ H x y v u Q I rx ry h
  obtain ⟨a, b, xs, ys, rfl, rfl, hx, hy, fx, fy, q⟩ := h
  cases rx
  cases ry
  obtain ⟨its, r, pl, hz⟩ := I.list hx
  obtain ⟨its2, r2, pl2, hz2⟩ := I.list hy
  have hl := r.length
  have hl2 := r2.length
  by_cases hs : xs.length = ys.length
  · refine SeqAt.eq_listAt (e := fun j => eqV (xs.getD j .non) (ys.getD j .non)) pl.isList pl2.isList (by simp only [List.size_toArray]; omega) hu (fun j h1 h2 => ?_) ?_
    · simp only [List.size_toArray] at h1 h2
      have g1 : xs[j]? = some xs[j] := List.getElem?_eq_getElem (by omega)
      have g2 : ys[j]? = some ys[j] := List.getElem?_eq_getElem (by omega)
      obtain ⟨u1, e1, ru1⟩ := r.get g1
      obtain ⟨u2, e2, ru2⟩ := r2.get g2
      have k1 : its.toArray[j] = u1 := by
        have : its[j]? = some its[j] := List.getElem?_eq_getElem h1
        rw [e1] at this
        simpa using (Option.some.inj this).symm
      have k2 : its2.toArray[j] = u2 := by
        have : its2[j]? = some its2[j] := List.getElem?_eq_getElem h2
        rw [e2] at this
        simpa using (Option.some.inj this).symm
      rw [k1, k2, show xs.getD j .non = xs[j] by simp [List.getD, g1], show ys.getD j .non = ys[j] by simp [List.getD, g2]]
      exact eqAt_V ru1 ru2 (List.all_eq_true.mp fx _ (List.getElem_mem _)) (List.all_eq_true.mp fy _ (List.getElem_mem _))
    · refine fin_bl I q ?_
      unfold eqVs
      rw [List.size_toArray, ← hl, hs]
      simp
  · refine SeqAt.eq_list_lengthsAt pl.isList pl2.isList (by simp only [List.size_toArray, bne_iff_ne]; omega) hu ?_
    refine fin_bl I q ?_
    unfold eqVs
    rw [beq_eq_false_iff_ne.mpr hs]
    rfl
end
end L2

set_option Elab.async false
set_option linter.all false
set_option maxRecDepth 100000
set_option maxHeartbeats 4000000
namespace L2
open PySem PySem.Spec PyProof.Rows
section
variable {X : Cx} {elt tg iter : Expr} {ifs : List Expr} {scope : Scope} {pos : Pos} {N' : List Str} {src : List (Option Nat)} {wi : TI} {g : TG} {tt : TT} {te : TE}
end
end L2

set_option Elab.async false
set_option linter.all false
set_option maxRecDepth 100000
set_option maxHeartbeats 4000000
namespace L2
open PySem PySem.Spec PyProof.Rows
section
variable {X : Cx}
/-- // by a positive divisor below 2^64 -/
def CDivL (_ j : Int) : Prop := 0 < j ∧ j < 18446744073709551616
theorem op_fdivL : OpR X (binaryOp .FloorDiv) (rI CDivL fun i j => .int (i / j)) := opI fun i j _ _ _ _ _ hc q => by
  have h1 : (0 : Int) < j := hc.1
  have h2 : j < 18446744073709551616 := hc.2
  refine floordiv_int (by omega) (by rw [Int.fdiv_eq_ediv_of_nonneg i (by omega)]; exact q) (.inl (PyProof.noPylong_of_log2 ?_))
  have h64 : j.natAbs.log2 < 64 := (Nat.log2_lt (by omega)).mpr (by omega)
  omega
/-- != of two lists of flat items -/
theorem op_ne_list (hu : X.A.units < cLine) : OpR X (compareOp .NotEq) (fun x y H Q => ∃ a b xs ys, x = .ref a ∧ y = .ref b ∧ SqL X.K H a xs ∧ SqL X.K H b ys ∧ xs.all flatV = true ∧ ys.all flatV = true ∧ Q (.bl (!eqVs xs ys)) H) := by
  intro pins s σ H x y v u Q I rx ry h
  obtain ⟨a, b, xs, ys, rfl, rfl, hx, hy, fx, fy, q⟩ := h
  cases rx
  cases ry
  obtain ⟨its, r, pl, hz⟩ := I.list hx
  obtain ⟨its2, r2, pl2, hz2⟩ := I.list hy
  have hl := r.length
  have hl2 := r2.length
  by_cases hs : xs.length = ys.length
  · refine SeqAt.RcNeAt.lists (e := fun j => eqV (xs.getD j .non) (ys.getD j .non)) pl.isList pl2.isList (by simp only [List.size_toArray]; omega) hu (fun j h1 h2 => ?_) X.prog X.w _ _ ?_
    · simp only [List.size_toArray] at h1 h2
      have g1 : xs[j]? = some xs[j] := List.getElem?_eq_getElem (by omega)
      have g2 : ys[j]? = some ys[j] := List.getElem?_eq_getElem (by omega)
      obtain ⟨u1, e1, ru1⟩ := r.get g1
      obtain ⟨u2, e2, ru2⟩ := r2.get g2
      have k1 : its.toArray[j] = u1 := by
        have : its[j]? = some its[j] := List.getElem?_eq_getElem h1
        rw [e1] at this
        simpa using (Option.some.inj this).symm
      have k2 : its2.toArray[j] = u2 := by
        have : its2[j]? = some its2[j] := List.getElem?_eq_getElem h2
        rw [e2] at this
        simpa using (Option.some.inj this).symm
      rw [k1, k2, show xs.getD j .non = xs[j] by simp [List.getD, g1], show ys.getD j .non = ys[j] by simp [List.getD, g2]]
      exact eqAt_V ru1 ru2 (List.all_eq_true.mp fx _ (List.getElem_mem _)) (List.all_eq_true.mp fy _ (List.getElem_mem _))
    · refine fin_bl I q ?_
      unfold eqVs
      rw [List.size_toArray, ← hl, hs]
      simp
  · refine SeqAt.RcNeAt.lists_lengths pl.isList pl2.isList (by simp only [List.size_toArray, bne_iff_ne]; omega) hu X.prog X.w _ _ ?_
    refine fin_bl I q ?_
    unfold eqVs
    rw [beq_eq_false_iff_ne.mpr hs]
    rfl
end
end L2

set_option Elab.async false
set_option linter.all false
set_option maxRecDepth 100000
set_option maxHeartbeats 4000000
namespace L2
open PySem PySem.Spec PyProof.Rows
/-- a cut: what holds behind the statement, then the rest once -/
def tCut (t u : TS) : TS := fun D σ H => ∃ Pv : St → Hp → Prop, t { D with nx := Pv } σ H ∧ ∀ σ' H', Pv σ' H' → u D σ' H'
section
variable {X : Cx} {st : Stmt} {rest : List Stmt} {t u : TS}
theorem pss_cut (h1 : PS X st t) (h2 : PSs X rest u) : PSs X (st :: rest) (tCut t u) := by
  intro pins s σ H D I h
  obtain ⟨Pv, h, hr⟩ := h
  refine wpAny_execs_cons (thn (h1 pins s σ H { D with nx := Pv } I h) fun f s1 q => ?_)
  cases f with
  | next =>
    obtain ⟨σ', H', I', q⟩ := q
    exact h2 pins s1 σ' H' D I' (hr σ' H' q)
  | ret v => exact q
  | brk => exact q
  | cont => exact q
end
/-! a comprehension's scope, by one look -/
def compLook (kindOf : Str → Option NameKind) (XN : List Str) (scope : Scope) (N' : List Str) (src : List (Option Nat)) : Bool :=
  (scope.kind == .function) && (scope.names.all fun y => (y.2 != .cell) && (y.2 != .local || scope.names.lookup y.1 == some .local) && (y.2 != .free || ((kindOf y.1 == some .cell || kindOf y.1 == some .free) && scope.names.lookup y.1 != some .local))) &&
  (N'.length == src.length) && ((List.range src.length).all fun i => match src[i]? with
    | some (some j) => (match N'[i]?, XN[j]? with | some x, some y => x == y && scope.names.contains (x, NameKind.free) | _, _ => false)
    | _ => true)
theorem compScope_of {X : Cx} {scope : Scope} {N' : List Str} {src : List (Option Nat)} (sc : Scope) (hsc : X.env.scope = sc) (N : List Str) (hN : X.N = N) (h : compLook (fun x => sc.names.lookup x) N scope N' src = true) : CompScope X scope N' src := by
  subst hsc hN
  unfold compLook at h
  simp only [Bool.and_eq_true, List.all_eq_true, beq_iff_eq, bne_iff_ne, ne_eq, Bool.or_eq_true] at h
  obtain ⟨⟨⟨h1, h2⟩, h3⟩, h4⟩ := h
  refine ⟨h1, fun y hy => (h2 y hy).1.1, fun y hy hl => ?_, fun n hn => ?_, fun n hn => ?_, h3, fun i j e => ?_⟩
  · rcases (h2 y hy).1.2 with z | z
    · exact absurd hl z
    · exact z
  · rcases (h2 _ hn).2 with z | z
    · exact absurd rfl z
    · exact z.1
  · rcases (h2 _ hn).2 with z | z
    · exact absurd rfl z
    · exact z.2
  · have hi : i < src.length := (List.getElem?_eq_some_iff.mp e).1
    have q := h4 i (List.mem_range.mpr hi)
    rw [e] at q
    dsimp only at q
    cases e1 : N'[i]? with
    | none => rw [e1] at q; cases q
    | some x =>
      cases e2 : X.N[j]? with
      | none => rw [e1, e2] at q; cases q
      | some y =>
        rw [e1, e2] at q
        simp only [Bool.and_eq_true, beq_iff_eq] at q
        obtain ⟨rfl, q⟩ := q
        exact ⟨x, rfl, rfl, by simpa using q⟩
/-! the two usual comprehensions -/
def Nx (N i : Nat) (P : Prop) : Prop := ∃ m', m' < N - i ∧ m' = N - (i + 1) ∧ i + 1 ≤ N ∧ P
theorem nx {N i : Nat} {P : Prop} (h : i < N) (p : P) : Nx N i P := ⟨_, by omega, rfl, h, p⟩
section
variable {x : Str} {σ0 : St} {H : Hp} {g : TG} {tt : TT} {te : TE} {Q : List V → Hp → Prop}
theorem comp_str (Pv : Nat → List V → St → Hp → Prop) (h0 : Pv 0 [] σ0 H)
    (hs : ∀ i c ys σc H, x.cps[i]? = some c → i < x.cps.size → Pv i ys σc H → ys.length < sizeLine ∧ g (.str ⟨#[c]⟩) σc H fun σ2 H2 => tt σ2 H2 fun b H3 =>
      if b = true then te σ2 H3 fun v H4 => Nx x.cps.size i (Pv (i + 1) (ys ++ [v]) σ2 H4) else Nx x.cps.size i (Pv (i + 1) ys σ2 H3))
    (hd : ∀ ys σc H, Pv x.cps.size ys σc H → Q ys H) :
    ∃ W : Nat → Nat → List V → St → Hp → Prop, (∃ m, W 0 m [] σ0 H) ∧ ∀ i m ys σc H, W i m ys σc H →
      ((Its x).stop i H ∧ Q ys H) ∨ ((Its x).go i H ∧ ys.length < sizeLine ∧ ∀ v H', (Its x).yld i H v H' → g v σc H' fun σ2 H2 => tt σ2 H2 fun b H3 =>
        if b = true then te σ2 H3 fun v H4 => ∃ m', m' < m ∧ W (i + 1) m' (ys ++ [v]) σ2 H4 else ∃ m', m' < m ∧ W (i + 1) m' ys σ2 H3) := by
  refine ⟨fun i m ys σc H => m = x.cps.size - i ∧ i ≤ x.cps.size ∧ Pv i ys σc H, ⟨_, rfl, Nat.zero_le _, h0⟩, ?_⟩
  rintro i m ys σc H ⟨rfl, hi, p⟩
  by_cases hlt : i < x.cps.size
  · have hc : x.cps[i]? = some x.cps[i] := by simp [hlt]
    obtain ⟨z, _⟩ := hs i _ ys σc H hc hlt p
    refine .inr ⟨hlt, z, fun v H' y => ?_⟩
    obtain ⟨e, c, hc', ev⟩ := y
    subst e ev
    exact (hs i c ys σc _ hc' hlt p).2
  · have e : i = x.cps.size := by omega
    subst e
    exact .inl ⟨rfl, hd ys σc H p⟩
theorem comp_range {lo : Int} {n : Nat} (Pv : Nat → List V → St → Hp → Prop) (h0 : Pv 0 [] σ0 H)
    (hs : ∀ i ys σc H, i < n → Pv i ys σc H → ys.length < sizeLine ∧ g (.int (lo + i)) σc H fun σ2 H2 => tt σ2 H2 fun b H3 =>
      if b = true then te σ2 H3 fun v H4 => Nx n i (Pv (i + 1) (ys ++ [v]) σ2 H4) else Nx n i (Pv (i + 1) ys σ2 H3))
    (hd : ∀ ys σc H, Pv n ys σc H → Q ys H) :
    ∃ W : Nat → Nat → List V → St → Hp → Prop, (∃ m, W 0 m [] σ0 H) ∧ ∀ i m ys σc H, W i m ys σc H →
      ((Itr lo n).stop i H ∧ Q ys H) ∨ ((Itr lo n).go i H ∧ ys.length < sizeLine ∧ ∀ v H', (Itr lo n).yld i H v H' → g v σc H' fun σ2 H2 => tt σ2 H2 fun b H3 =>
        if b = true then te σ2 H3 fun v H4 => ∃ m', m' < m ∧ W (i + 1) m' (ys ++ [v]) σ2 H4 else ∃ m', m' < m ∧ W (i + 1) m' ys σ2 H3) := by
  refine ⟨fun i m ys σc H => m = n - i ∧ i ≤ n ∧ Pv i ys σc H, ⟨_, rfl, Nat.zero_le _, h0⟩, ?_⟩
  rintro i m ys σc H ⟨rfl, hi, p⟩
  by_cases hlt : i < n
  · obtain ⟨z, _⟩ := hs i ys σc H hlt p
    refine .inr ⟨hlt, z, fun v H' y => ?_⟩
    obtain ⟨e, ev⟩ := y
    subst e ev
    exact (hs i ys σc _ hlt p).2
  · have e : i = n := by omega
    subst e
    exact .inl ⟨Nat.le_refl _, hd ys σc H p⟩
end
theorem same_upd {H : Hp} {a : Addr} {o : HO} (h : H a = none) : Same H (upd H a o) := fun b u e => by rw [upd_ne (ne_of_none e h)]; exact e
theorem at_mod {α : Type} {xs : List α} (h : 0 < xs.length) (i : Int) : ∃ v, v ∈ xs ∧ atI xs (i % (xs.length : Int)) = some v := by
  have h0 : 0 ≤ i % (xs.length : Int) := Int.emod_nonneg _ (by omega)
  have h1 : i % (xs.length : Int) < xs.length := Int.emod_lt_of_pos _ (by omega)
  obtain ⟨j, hj⟩ := Int.eq_ofNat_of_zero_le h0
  have hl : j < xs.length := by omega
  refine ⟨xs[j], List.getElem_mem hl, ?_⟩
  rw [hj]
  exact atI_nat (List.getElem?_eq_getElem hl)
theorem at_in {α : Type} {xs : List α} {i : Int} (h0 : 0 ≤ i) (h1 : i < xs.length) : ∃ v, v ∈ xs ∧ atI xs i = some v := by
  obtain ⟨j, hj⟩ := Int.eq_ofNat_of_zero_le h0
  have hl : j < xs.length := by omega
  refine ⟨xs[j], List.getElem_mem hl, ?_⟩
  rw [hj]
  exact atI_nat (List.getElem?_eq_getElem hl)

/-! argument lists, item by item, whatever stands behind -/
section
variable {X : Cx} {es : List Expr} {te : TE} {t : TA}
theorem pa_k {c : Const} {j : Nat} {p : Pos} (h : PE X (.Constant c j p) te) (hr : PA X es t) : PA X (.Constant c j p :: es) (tCons te t) := pa_cons h hr rfl
theorem pa_n {x : Str} {p : Pos} (h : PE X (.Name x p) te) (hr : PA X es t) : PA X (.Name x p :: es) (tCons te t) := pa_cons h hr rfl
theorem pa_c {f : Expr} {xs : List Expr} {ks : List Keyword} {p : Pos} (h : PE X (.Call f xs ks p) te) (hr : PA X es t) : PA X (.Call f xs ks p :: es) (tCons te t) := pa_cons h hr rfl
end
/-- the value of a written constant -/
def constV : Expr → Option V
  | .Constant (.int i) _ _ => some (.int i)
  | .Constant (.str x) _ _ => some (.str x)
  | .Constant (.bool b) _ _ => some (.bl b)
  | .Constant .none _ _ => some .non
  | _ => none
theorem pa_consts {X : Cx} : ∀ {es : List Expr} {vs : List V}, es.map constV = vs.map some → PA X es (fun _ H Q => Q vs H)
  | [], [], _ => pa_nil
  | [], v :: vs, h => by cases h
  | e :: es, [], h => by cases h
  | e :: es, v :: vs, h => by
    rw [List.map_cons, List.map_cons] at h
    injection h with h1 h2
    have ih := pa_consts (X := X) h2
    cases e with
    | Constant c j p =>
      cases c with
      | int i => cases h1; exact pa_k pe_int ih
      | str x => cases h1; exact pa_k pe_str ih
      | bool b => cases h1; exact pa_k pe_bl ih
      | none => cases h1; exact pa_k pe_non ih
      | _ => cases h1
    | _ => cases h1
theorem nd1 (x : Str) : [x].Nodup := by simp
end L2

set_option Elab.async false
set_option linter.all false
set_option maxRecDepth 100000
set_option maxHeartbeats 4000000
namespace L2
open PySem PySem.Spec PyProof.Rows
section
variable {K : PySem.W.Frag} {a : Addr} {xs : List V} {σ0 : St} {H : Hp} {g : TG} {tt : TT} {te : TE} {Q : List V → Hp → Prop}
/-- a comprehension over a tuple -/
theorem comp_tup (Pv : Nat → List V → St → Hp → Prop) (h0 : Pv 0 [] σ0 H) (hl : ∀ i ys σc H, Pv i ys σc H → SqT K H a xs)
    (hs : ∀ i x ys σc H, xs[i]? = some x → i < xs.length → Pv i ys σc H → ys.length < sizeLine ∧ g x σc H fun σ2 H2 => tt σ2 H2 fun b H3 =>
      if b = true then te σ2 H3 fun v H4 => Nx xs.length i (Pv (i + 1) (ys ++ [v]) σ2 H4) else Nx xs.length i (Pv (i + 1) ys σ2 H3))
    (hd : ∀ ys σc H, Pv xs.length ys σc H → Q ys H) :
    ∃ W : Nat → Nat → List V → St → Hp → Prop, (∃ m, W 0 m [] σ0 H) ∧ ∀ i m ys σc H, W i m ys σc H →
      ((Itt K a).stop i H ∧ Q ys H) ∨ ((Itt K a).go i H ∧ ys.length < sizeLine ∧ ∀ v H', (Itt K a).yld i H v H' → g v σc H' fun σ2 H2 => tt σ2 H2 fun b H3 =>
        if b = true then te σ2 H3 fun v H4 => ∃ m', m' < m ∧ W (i + 1) m' (ys ++ [v]) σ2 H4 else ∃ m', m' < m ∧ W (i + 1) m' ys σ2 H3) := by
  refine ⟨fun i m ys σc H => m = xs.length - i ∧ i ≤ xs.length ∧ Pv i ys σc H, ⟨_, rfl, Nat.zero_le _, h0⟩, ?_⟩
  rintro i m ys σc H ⟨rfl, hi, p⟩
  have q := hl i ys σc H p
  by_cases hlt : i < xs.length
  · have hx : xs[i]? = some xs[i] := List.getElem?_eq_getElem hlt
    obtain ⟨z, _⟩ := hs i _ ys σc H hx hlt p
    refine .inr ⟨⟨xs, xs[i], q, hx⟩, z, fun v H' y => ?_⟩
    obtain ⟨e, y⟩ := y
    subst e
    exact (hs i v ys σc _ (y xs q) hlt p).2
  · have e : i = xs.length := by omega
    subst e
    exact .inl ⟨⟨xs, q, Nat.le_refl _⟩, hd ys σc H p⟩
/-- a comprehension over a list that the block leaves as it is -/
theorem comp_list (Pv : Nat → List V → St → Hp → Prop) (h0 : Pv 0 [] σ0 H) (hl : ∀ i ys σc H, Pv i ys σc H → SqL K H a xs)
    (hs : ∀ i x ys σc H, xs[i]? = some x → i < xs.length → Pv i ys σc H → ys.length < sizeLine ∧ g x σc H fun σ2 H2 => tt σ2 H2 fun b H3 =>
      if b = true then te σ2 H3 fun v H4 => Nx xs.length i (Pv (i + 1) (ys ++ [v]) σ2 H4) else Nx xs.length i (Pv (i + 1) ys σ2 H3))
    (hd : ∀ ys σc H, Pv xs.length ys σc H → Q ys H) :
    ∃ W : Nat → Nat → List V → St → Hp → Prop, (∃ m, W 0 m [] σ0 H) ∧ ∀ i m ys σc H, W i m ys σc H →
      ((Itl K a).stop i H ∧ Q ys H) ∨ ((Itl K a).go i H ∧ ys.length < sizeLine ∧ ∀ v H', (Itl K a).yld i H v H' → g v σc H' fun σ2 H2 => tt σ2 H2 fun b H3 =>
        if b = true then te σ2 H3 fun v H4 => ∃ m', m' < m ∧ W (i + 1) m' (ys ++ [v]) σ2 H4 else ∃ m', m' < m ∧ W (i + 1) m' ys σ2 H3) := by
  refine ⟨fun i m ys σc H => m = xs.length - i ∧ i ≤ xs.length ∧ Pv i ys σc H, ⟨_, rfl, Nat.zero_le _, h0⟩, ?_⟩
  rintro i m ys σc H ⟨rfl, hi, p⟩
  have q := hl i ys σc H p
  by_cases hlt : i < xs.length
  · have hx : xs[i]? = some xs[i] := List.getElem?_eq_getElem hlt
    obtain ⟨z, _⟩ := hs i _ ys σc H hx hlt p
    refine .inr ⟨⟨xs, xs[i], q, hx⟩, z, fun v H' y => ?_⟩
    obtain ⟨e, y⟩ := y
    subst e
    exact (hs i v ys σc _ (y xs q) hlt p).2
  · have e : i = xs.length := by omega
    subst e
    exact .inl ⟨⟨xs, q, Nat.le_refl _⟩, hd ys σc H p⟩
end
/-- isinstance, the written part named (within a block: K is the same for all blocks) -/
theorem call_isinstK {X : Cx} {K : PySem.W.Frag} (hK : X.K = K) : CallR X (.builtin "isinstance") (fun xs H Q => ∃ x T ty b, xs = [x, .ty T] ∧ TyOf K H x ty ∧ PySem.W.kitOne K ty (.type T) = some b ∧ Q (.bl b) H) := by
  subst hK
  exact call_isinst
/-! ### trees of tuples: what a node has of its own, then its parts -/
theorem take_nextR {α : Type} {l : List α} {i : Nat} {c : α} (p : α → Bool) (h : l[i]? = some c) : (l.take (i + 1)).filter p = (l.take i).filter p ++ (if p c = true then [c] else []) := by
  rw [List.take_add_one, h, List.filter_append]
  cases hp : p c <;> simp [hp]
end L2

set_option Elab.async false
set_option linter.all false
set_option maxRecDepth 100000
set_option maxHeartbeats 4000000
namespace L2
open PySem PySem.Spec PyProof.Rows
/-! ### tuples kept -/
/-! ### the rules over a fragment named (within a block) -/
section
variable {X : Cx} {K : PySem.W.Frag}
end
/-! ### sorted of texts -/
section
variable {X : Cx}
end
/-! ### tuples of tuples of plain values, and == of them -/
section
variable {X : Cx} {pins : List (Addr × Obj)} {σ : St} {H : Hp} {s : Shared}
end
section
variable {X : Cx}
end
end L2
namespace L2
open PySem PySem.Spec PyProof.Rows PySem.Builtin PySem.Builtin.Str
/-! ### texts cut -/
theorem cut_all {n : Nat} {j : Int} (h : (n : Int) ≤ j) : (strSliceIndices none (some j) 1 n).length = n := by
  unfold strSliceIndices sliceRange
  simp only [show (1 : Int) > 0 by decide, if_true, List.length_map, List.length_range]
  split <;> (try split) <;> (try split) <;> (try simp only [Int.ediv_one]) <;> omega
/-- x[:j] has a sign where x has one and j is 1 or more -/
theorem cut_pos {x : Str} {j : Int} (hx : 0 < x.length) (hj : 1 ≤ j) : 0 < (Txt.slice x none (some j)).length := by
  have hl : x.cps.toList.length = x.length := by simp [Str.length]
  by_cases h : j ≤ x.length
  · have e := beq_iff_eq.mp (slice_closes_to (x := x) (j := j) ⟨by omega, by rw [hl]; exact h⟩)
    rw [e]
    show 0 < (List.toArray _).size
    rw [List.size_toArray, List.length_take, List.length_drop, hl]
    omega
  · have e : Txt.slice x none (some j) = x := by
      unfold Txt.slice
      rw [cut_all (show ((x.length : Nat) : Int) ≤ j by omega)]
      simp
    rw [e]; exact hx
/-- x[:j] has at most j signs -/
theorem cut_le {x : Str} {j : Int} (hj : 0 ≤ j) : ((Txt.slice x none (some j)).length : Int) ≤ j := by
  have hl : x.cps.toList.length = x.length := by simp [Str.length]
  by_cases h : j ≤ x.length
  · have e := beq_iff_eq.mp (slice_closes_to (x := x) (j := j) ⟨hj, by rw [hl]; exact h⟩)
    rw [e]
    show (((List.toArray _).size : Nat) : Int) ≤ j
    rw [List.size_toArray, List.length_take, List.length_drop, hl]
    omega
  · have := Txt.slice_le x none (some j)
    omega
/-- x[i:] has what is left -/
theorem cut_from {x : Str} {i : Int} (h0 : 0 ≤ i) (h : i ≤ x.length) : ((Txt.slice x (some i) none).length : Int) = x.length - i := by
  have hl : x.cps.toList.length = x.length := by simp [Str.length]
  rw [slice_from_eq h0 h rfl]
  show (((List.toArray _).size : Nat) : Int) = _
  rw [List.size_toArray, List.length_take, List.length_drop, hl]
  omega
end L2

set_option Elab.async false
set_option linter.all false
set_option maxRecDepth 100000
set_option maxHeartbeats 4000000
namespace L2
open PySem PySem.Spec PyProof.Rows
/-- a display of constants as the values that it lists -/
def constsOf : Expr → Option (List V)
  | .List es _ => es.mapM constV
  | _ => none
theorem mapM_map : ∀ {es : List Expr} {vs : List V}, es.mapM constV = some vs → es.map constV = vs.map some := by
  intro es
  induction es with
  | nil =>
    intro vs h
    rw [List.mapM_nil] at h
    have : vs = [] := (Option.some.inj h).symm
    subst this
    rfl
  | cons e es ih =>
    intro vs h
    rw [List.mapM_cons] at h
    cases he : constV e with
    | none => rw [he] at h; cases h
    | some v =>
      cases hr : es.mapM constV with
      | none => rw [he, hr] at h; cases h
      | some r =>
        rw [he, hr] at h
        have : vs = v :: r := (Option.some.inj h).symm
        subst this
        rw [List.map_cons, List.map_cons, he, ih hr]
/-- [c, c, ..] of constants, whatever its length -/
theorem pe_consts {X : Cx} {e : Expr} {vs : List V} (h : constsOf e = some vs) : PE X e (tLst (fun _ H Q => Q vs H)) := by
  cases e with
  | List es p => exact pe_lst (pa_consts (mapM_map h))
  | _ => cases h
end L2

set_option Elab.async false
set_option linter.all false
set_option maxRecDepth 100000
set_option maxHeartbeats 4000000
namespace L2
open PySem PySem.Spec PyProof.Rows
/-! ### a call of a function that a name holds (a parameter, a thing out of a table) -/
section
variable {X : Cx} {CX : CXT} {k : Nat} {E : XK} {x : Str} {p pos : Pos} {e : Expr} {es : List Expr} {tf : TE} {t : TA} {Pf : Addr → Prop} {sp : Addr → Sp}
def tCallV (Pf : Addr → Prop) (sp : Addr → Sp) (E : XK) (tf : TE) (t : TA) : TE := fun σ H Q => tf σ H fun fv H1 => ∃ f, fv = .ref f ∧ Pf f ∧ t σ H1 fun vs H2 => sp f vs H2 Q E
theorem pe_callV (hF : ∀ f, Pf f → ∃ fd ps, FnOk X.prog X.w X.K X.mg X.base CX k f fd ps (sp f) ∧ PySem.W.keepIn X.K (.ref f) = true ∧ Binds X.K fd ps []) (hr : Room k X.A) (hx : Passes CX X E) (hfn : PE X (.Name x p) tf)
    (ha : PA X (e :: es) t) (he : starEach (e :: es) X.env = (false, eval e X.env) :: starEach es X.env := by rfl) (hpl : (backTo pos (starEach es X.env)).any (·.1) = false := by rfl) :
    PE X (.Call (.Name x p) (e :: es) [] pos) (tCallV Pf sp E tf t) := by
  intro pins s σ H Q I h
  refine wpAny_Call_Name_kw (thn (hfn pins s σ H _ I h) fun u s1 ⟨v, H1, I1, r1, f, ev, hp, q1⟩ => ?_)
  subst ev
  cases r1
  obtain ⟨fd, ps, F, hk, hb⟩ := hF f hp
  refine PySem.W.callWith_K (h₀ := X.base) I.ok.mod.kin hk (thn (ha pos pins s1 σ H1 _ I1 q1) fun us s2 ⟨vs, H2, I2, r, q⟩ => ⟨I2.kIn, ?_⟩) he hpl
  exact run_fn (dvs := []) F hr hb .nil hx I2 r (by rw [List.append_nil]; exact q)
end
/-! ### any thing: flat values, tuples and lists of things -/
inductive Th where
  | at (v : V)
  | tup (xs : List Th)
  | lst (xs : List Th)
/-- a flat value, a text of at most a thousand signs -/
def smallV : V → Bool
  | .str x => decide (x.length ≤ 1000)
  | v => flatV v
mutual
inductive IsTh (H : Hp) : V → Th → Prop where
  | at {v : V} (f : smallV v = true) : IsTh H v (.at v)
  | tup {a : Addr} {vs : List V} {ts : List Th} (h : H a = some (.tup vs)) (r : IsThs H vs ts) : IsTh H (.ref a) (.tup ts)
  | lst {a : Addr} {vs : List V} {ts : List Th} (h : H a = some (.lst vs)) (r : IsThs H vs ts) : IsTh H (.ref a) (.lst ts)
inductive IsThs (H : Hp) : List V → List Th → Prop where
  | nil : IsThs H [] []
  | cons {v : V} {vs : List V} {t : Th} {ts : List Th} (h : IsTh H v t) (r : IsThs H vs ts) : IsThs H (v :: vs) (t :: ts)
end
/-- all but dicts stays -/
def Kp (H H' : Hp) : Prop := ∀ a o, H a = some o → (∀ kvs, o ≠ .dK kvs) → H' a = some o
theorem Kp.trans {H H1 H2 : Hp} (a : Kp H H1) (b : Kp H1 H2) : Kp H H2 := fun c o e n => b c o (a c o e n) n
theorem Kp.of {H H1 : Hp} (a : Same H H1) : Kp H H1 := fun c o e _ => a c o e
mutual
theorem IsTh.kp {H H' : Hp} (k : Kp H H') : ∀ {v : V} {t : Th}, IsTh H v t → IsTh H' v t
  | _, _, .at f => .at f
  | _, _, .tup h r => .tup (k _ _ h (fun _ z => by cases z)) (IsThs.kp k r)
  | _, _, .lst h r => .lst (k _ _ h (fun _ z => by cases z)) (IsThs.kp k r)
theorem IsThs.kp {H H' : Hp} (k : Kp H H') : ∀ {vs : List V} {ts : List Th}, IsThs H vs ts → IsThs H' vs ts
  | _, _, .nil => .nil
  | _, _, .cons h r => .cons (IsTh.kp k h) (IsThs.kp k r)
end
theorem IsThs.len {H : Hp} : ∀ (vs : List V) {ts : List Th}, IsThs H vs ts → vs.length = ts.length := by
  intro vs
  induction vs with
  | nil => intro ts h; cases h; rfl
  | cons v vs ih =>
    intro ts h
    cases h with
    | cons a b => rw [List.length_cons, List.length_cons, ih b]
theorem IsThs.app {H : Hp} : ∀ (vs : List V) {ws : List V} {ts us : List Th}, IsThs H vs ts → IsThs H ws us → IsThs H (vs ++ ws) (ts ++ us) := by
  intro vs
  induction vs with
  | nil => intro ws ts us h g; cases h; exact g
  | cons v vs ih =>
    intro ws ts us h g
    cases h with
    | cons a b => exact .cons a (ih b g)
end L2

set_option Elab.async false
set_option linter.all false
set_option maxRecDepth 100000
set_option maxHeartbeats 4000000
namespace L2
open PySem PySem.Spec PyProof.Rows
/-! ### a dict of the module, its keys texts -/
inductive KEnt (w : World) : List DictEntry → List (Str × V) → Prop where
  | nil : KEnt w [] []
  | cons {x : Str} {tk : Tok} {u : Value} {v : V} {es : List DictEntry} {kvs : List (Str × V)} (r : RelV v u) (q : KEnt w es kvs) : KEnt w (⟨PyData.keyHash w.params x, .str x tk, u⟩ :: es) ((x, v) :: kvs)
structure KDict (K : PySem.W.Frag) (w : World) (a : Addr) (kvs : List (Str × V)) : Prop where
  ex : ∃ (o : Obj) (es : Array DictEntry) (ep : Nat), K.lookup a = some o ∧ o.cls = .type "dict" ∧ o.dict = none ∧ o.slots = #[] ∧ o.data = .dict es ep ∧ KEnt w es.toList kvs
  nd : (kvs.map (·.1)).Nodup
  sm : (a == sysModules) = false
def keyed (kvs : List (Str × V)) : List (Key × V) := kvs.map fun p => (Sum.inr p.1, p.2)
/-- what a text is in it -/
def getT (kvs : List (Str × V)) (t : Str) : Option V := valV (keyed kvs) (Sum.inr t)
theorem KEnt.pairs {P : Program} {w : World} : ∀ (es : List DictEntry) {kvs : List (Str × V)}, KEnt w es kvs →
    ∃ vs : List (Key × Value), KV (keyed kvs) vs ∧ Pairs (mixKind P w) es vs ∧ (∀ e ∈ es, ∃ k, (mixKind P w).is k e.key = true ∧ e.hash = (mixKind P w).hash k) ∧ vs.map (·.1) = kvs.map fun p => (Sum.inr p.1 : Key) := by
  intro es
  induction es with
  | nil =>
    intro kvs h
    cases h
    exact ⟨[], .nil, .nil, (fun e he => absurd he List.not_mem_nil), rfl⟩
  | cons e es ih =>
    intro kvs h
    cases h with
    | @cons x tk u v _ kvs' r q =>
      obtain ⟨vs, h1, h2, h3, h4⟩ := ih q
      refine ⟨(Sum.inr x, u) :: vs, .cons ⟨rfl, r⟩ h1, .cons (mixKind_str P w x tk) rfl h2, fun e he => ?_, by rw [List.map_cons, List.map_cons, h4]⟩
      rcases List.mem_cons.mp he with z | z
      · subst z
        exact ⟨Sum.inr x, mixKind_str P w x tk, rfl⟩
      · exact h3 e z
theorem inr_nodup {kvs : List (Str × V)} (h : (kvs.map (·.1)).Nodup) : (kvs.map fun p => (Sum.inr p.1 : Key)).Nodup := by
  have e : (kvs.map fun p => (Sum.inr p.1 : Key)) = (kvs.map (·.1)).map Sum.inr := by rw [List.map_map]; rfl
  rw [e]
  exact List.Pairwise.map _ (fun a b hab z => hab (by injection z)) h
theorem KDict.of {X : Cx} {pins : List (Addr × Obj)} {σ : St} {H : Hp} {s : Shared} {a : Addr} {kvs : List (Str × V)} (I : Inv X pins σ H s) (d : KDict X.K X.w a kvs) :
    ∃ vs, KV (keyed kvs) vs ∧ s.heap.DictOf (mixKind X.prog X.w) a vs := by
  obtain ⟨⟨o, es, ep, h1, h2, h3, h4, h5, h6⟩, nd, _⟩ := d
  obtain ⟨vs, q1, q2, q3, q4⟩ := h6.pairs (P := X.prog)
  refine ⟨vs, q1, o, es, ep, I.kIn a o h1, ⟨h2, h3, h4⟩, h5, fun e he => q3 e (by simpa using he), q2, ?_⟩
  rw [q4]
  exact inr_nodup nd
section
variable {X : Cx} {o e f : Expr} {apos cpos : Pos} {td ty tx : TE}
def tKGet1 (K : PySem.W.Frag) (w : World) (td ty : TE) : TE := fun σ H Q => td σ H fun x H1 => ∃ a kvs, x = .ref a ∧ KDict K w a kvs ∧ ty σ H1 fun y H2 => ∃ t, y = .str t ∧ Q ((getT kvs t).getD .non) H2
def tKGet2 (K : PySem.W.Frag) (w : World) (td ty tx : TE) : TE := fun σ H Q => td σ H fun x H1 => ∃ a kvs, x = .ref a ∧ KDict K w a kvs ∧ ty σ H1 fun y H2 => ∃ t, y = .str t ∧ tx σ H2 fun z H3 => Q ((getT kvs t).getD z) H3
theorem kd_at {pins : List (Addr × Obj)} {σ : St} {H : Hp} {s : Shared} {a : Addr} {kvs : List (Str × V)} (I : Inv X pins σ H s) (d : KDict X.K X.w a kvs) :
    s.TypeIs (.ref a) "dict" ∧ ∀ b, Value.ref a = .ref b → ∃ ob, s.heap.get? b = some ob ∧ ob.dict = none := by
  obtain ⟨vs, _, dd⟩ := d.of I
  refine ⟨dd.typeIs, fun b q => ?_⟩
  cases q
  obtain ⟨ob, _, _, h1, h2, _⟩ := dd
  exact ⟨ob, h1, h2.2.1⟩
/-- D.get(t) of a dict of the module -/
theorem pe_kget1 (ho : PE X o td) (he : PE X e ty) (m : M1 X o "get" apos e cpos) : PE X (.Call (.Attribute o "get" apos) [e] [] cpos) (tKGet1 X.K X.w td ty) := by
  intro pins s σ H Q I h
  refine wpAny_Call_method m.base m.few m.line PySem.F.plainAttrs_dict PySem.F.slot_dict_get PySem.F.type_dict_get (thn (ho pins s σ H _ I h) fun u s1 ⟨x, H1, I1, rx, a, kvs, ex, d, q1⟩ => ?_)
  subst ex
  obtain rfl : u = Value.ref a := rx
  obtain ⟨t1, t2⟩ := kd_at I1 d
  refine ⟨t1, t2, ?_⟩
  rw [m.trees]
  refine Calls.callWith_builtin rfl (Calls.evalArgs_plain (Calls.spliced_cons (thn (he pins s1 σ H1 _ I1 q1) fun iv s2 ⟨y, H2, I2, ry, t, ey, q2⟩ => Calls.spliced_nil ?_)))
  subst ey
  obtain ⟨vs, rel, dd⟩ := d.of I2
  refine call_meetsIn PySem.F.slot_dict_get dd.typeIs PySem.F.entry_dict_get (PySem.F.args_dict_get_2 _ _) (meets_dict_get (mixKind X.prog X.w) a (kV_is (k := Sum.inr t) ry) d.sm) ⟨_, dd.mapOf, ⟨(getT kvs t).getD .non, H2, I2.tok _, ?_, q2⟩⟩
  exact (rel.val (Sum.inr t)).getD rfl
/-- D.get(t, z) of a dict of the module -/
theorem pe_kget2 (ho : PE X o td) (he : PE X e ty) (hf : PE X f tx) (m : M2 X o "get" apos e f cpos) : PE X (.Call (.Attribute o "get" apos) [e, f] [] cpos) (tKGet2 X.K X.w td ty tx) := by
  intro pins s σ H Q I h
  refine wpAny_Call_method m.base m.few m.line PySem.F.plainAttrs_dict PySem.F.slot_dict_get PySem.F.type_dict_get (thn (ho pins s σ H _ I h) fun u s1 ⟨x, H1, I1, rx, a, kvs, ex, d, q1⟩ => ?_)
  subst ex
  obtain rfl : u = Value.ref a := rx
  obtain ⟨t1, t2⟩ := kd_at I1 d
  refine ⟨t1, t2, ?_⟩
  rw [m.trees]
  refine Calls.callWith_builtin rfl (Calls.evalArgs_plain (Calls.spliced_cons (thn (he pins s1 σ H1 _ I1 q1) fun iv s2 ⟨y, H2, I2, ry, t, ey, q2⟩ =>
    Calls.spliced_cons (thn (hf pins s2 σ H2 _ I2 q2) fun fv s3 ⟨z, H3, I3, rz, q3⟩ => Calls.spliced_nil ?_))))
  subst ey
  obtain ⟨vs, rel, dd⟩ := d.of I3
  refine call_meetsIn PySem.F.slot_dict_get dd.typeIs PySem.F.entry_dict_get (PySem.F.args_dict_get_3 _ _ _) (meets_dict_get_default (mixKind X.prog X.w) a (kV_is (k := Sum.inr t) ry) d.sm _) ⟨_, dd.mapOf, ⟨(getT kvs t).getD z, H3, I3.tok _, ?_, q3⟩⟩
  exact (rel.val (Sum.inr t)).getD rz
end
end L2

set_option Elab.async false
set_option linter.all false
set_option maxRecDepth 100000
set_option maxHeartbeats 4000000
namespace L2
open PySem PySem.Spec PyProof.Rows
section
variable {X : Cx}
/-- while by a measure that is told beside the state -/
theorem while_m {c : TT} {tb : TS} {D : Ends} {σ : St} {H : Hp} (Pv : Nat → St → Hp → Prop) (m0 : Nat) (h0 : Pv m0 σ H)
    (hs : ∀ m σ H, Pv m σ H → c σ H fun b H1 => if b = true then tb { D with nx := fun σ' H' => ∃ m', m' < m ∧ Pv m' σ' H', ct := fun σ' H' => ∃ m', m' < m ∧ Pv m' σ' H', bk := D.nx } σ H1 else D.nx σ H1)
    (mono : ∀ σ H Q Q', (∀ b H1, Q b H1 → Q' b H1) → c σ H Q → c σ H Q') : tWhile c tb D σ H := by
  refine ⟨Pv, ⟨m0, h0⟩, ?_⟩
  intro m σ H p
  refine mono σ H _ _ (fun b H1 q => ?_) (hs m σ H p)
  cases b with
  | true => exact ⟨_, fun σ' H' z => z, q⟩
  | false => exact q
/-- xs.extend(t) of a tuple -/
def rExtendT : V → List V → Hp → VK → Prop := fun x vs H Q => ∃ l b xs zs, x = .ref l ∧ vs = [.ref b] ∧ H l = some (.lst xs) ∧ H b = some (.tup zs) ∧ xs.length + zs.length ≤ sizeLine ∧ Q .non (upd H l (.lst (xs ++ zs)))
theorem list_extend_tupW (l : Addr) (items : Array Value) (n : Nat) (b : Addr) (items2 : Array Value) (n2 : Nat) (dd2 : Option Addr) (sl2 : Array (Option Value)) (hs0 : ¬(!items.isEmpty && Builtin.List.listTooLong (items.size + items2.size)) = true) (hs1 : items.size ≤ sizeLine) (hs2 : items.size + items2.size ≤ sizeLine + 1) :
    Meets (Builtin.«list.extend» ⟨[.ref l, .ref b], []⟩) (fun _ R s => s.heap.get? l = some { cls := .type "list", dict := none, data := .seq items n, slots := #[] } ∧ s.heap.get? b = some { cls := .type "tuple", dict := dd2, data := .seq items2 n2, slots := sl2 } ∧ R (.ok (.ret Value.none)) { s with heap := s.heap.update l (Obj.mapSeq (· ++ items2)), toks := s.toks }) := by
  refine .of_wp fun prog w A R s h => ?_
  obtain ⟨hp, g, d, tk, os⟩ := s
  obtain ⟨e1, e2, k⟩ := h
  have g1 := AutoSeq1.idx_int
  have g2 := AutoSeq1.sub_tuple_tuple
  have g3 := AutoSeq1.sub_list_list
  have g4 := AutoSeq1.sub_tuple_list
  have g5 := AutoSeq1.sub_list_tuple
  have fits : (items ++ items2).size ≤ sizeLine + 1 := by
    rw [Array.size_append]
    exact hs2
  wp_walk using (wpAny_updateSeq e1 rfl (hz := hs1) (_hz' := fits)), AutoSeq1.wpAny_loadPart' e1, AutoSeq1.wpAny_loadPart' e2
  exact ⟨_, rfl, k⟩
theorem mt_extendT : MtM X "list.extend" rExtendT := by
  intro pins s σ H x vs v us Q I rx rv h
  obtain ⟨l, b, xs, zs, rfl, rfl, hH, hB, hz, q⟩ := h
  cases rx
  obtain ⟨u, rfl, ru⟩ := rv.one
  cases ru
  obtain ⟨z, its, n, r, hl, e⟩ := I.lstM hH
  obtain ⟨its2, r2, p2, hz2⟩ := I.tuple (SqT.of (K := X.K) hB)
  have hl2 := r2.length
  obtain ⟨⟨c2, dd2, data2, sl2⟩, ho2, hc2, n2, hd2⟩ := id p2
  simp only at hc2 hd2
  subst hc2 hd2
  have hsz : its.toArray.size + its2.toArray.size ≤ sizeLine := by rw [List.size_toArray, List.size_toArray]; omega
  have hlong : ¬ (!its.toArray.isEmpty && Builtin.List.listTooLong (its.toArray.size + its2.toArray.size)) = true := by
    rw [notLongL hsz, Bool.and_false]
    exact Bool.false_ne_true
  refine call_meets F.slot_list_extend ⟨_, e, rfl⟩ F.entry_list_extend (F.args_list_extend_2 _ _)
    (list_extend_tupW l its.toArray n b its2.toArray n2 dd2 sl2 hlong (by rw [List.size_toArray]; omega) (by omega)) ⟨e, ho2, ?_⟩
  refine ⟨.non, _, I.lset (its' := its ++ its2) hH e (by simp) (r.append r2) ?_, rfl, q⟩
  rw [List.length_append]
  omega
end
end L2

set_option Elab.async false
set_option linter.all false
set_option maxRecDepth 100000
set_option maxHeartbeats 4000000
namespace L2
open PySem PySem.Spec PyProof.Rows PySem.Builtin PySem.Builtin.Str
/-- x.split(y), y in x -/
def splitL (x y : Str) : List Str := partsBetween x (occurrences x y 0 x.length (x.length + 1)) y.length
theorem vals_from : ∀ (ss : List Str) (n : Nat), Vals (ss.map V.str) (strsFrom n ss) := by
  intro ss
  induction ss with
  | nil => intro n; exact .nil
  | cons s ss ih => intro n; exact .cons ⟨_, rfl⟩ (ih _)
def rSplit : V → List V → Hp → VK → Prop := fun x vs H Q => ∃ a b : Str, x = .str a ∧ vs = [.str b] ∧ (decide (a.length < b.length) || decide (strKind a < strKind b)) = false ∧ (b.length == 0) = false ∧ (occurrences a b 0 a.length (a.length + 1)).isEmpty = false ∧ a.length ≤ sizeLine ∧
  (splitL a b).length ≤ sizeLine ∧ ∀ p, H p = none → Q (.ref p) (upd H p (.lst ((splitL a b).map V.str)))
theorem mt_split {X : Cx} : MtM X "str.split" rSplit := by
  intro pins s σ H x vs v us Q I rx rv h
  obtain ⟨a, b, rfl, rfl, h1, h2, h3, h4, h5, q⟩ := h
  obtain ⟨t, rfl⟩ := rx
  obtain ⟨u, rfl, ru⟩ := rv.one
  obtain ⟨t2, rfl⟩ := ru
  refine call_meets F.slot_str_split (typeIs_str _ _ _) F.entry_str_split (F.args_str_split_2 _ _) (meets_str_split_sep a b t t2 h1 h2 h3 h4 h5) ?_
  refine ⟨.ref s.heap.objs.size, _, I.laid (o := .lst ((splitL a b).map V.str)) (fun c ob e => Heap.get?_push_of_some _ e) (Nat.le_refl _) ⟨by rw [List.length_map]; exact h5, strsFrom s.toks (splitL a b), 0, vals_from _ _, Heap.get?_push_size _ rfl⟩, rfl, q _ (I.hok.fresh (Nat.le_refl _))⟩
end L2

set_option Elab.async false
set_option linter.all false
set_option maxRecDepth 100000
set_option maxHeartbeats 4000000
namespace L2
open PySem PySem.Spec PyProof.Rows
section
variable {X : Cx}
/-- xs == [] of a list of any things -/
theorem op_eq_nil (hu : X.A.units < cLine) : OpR X (compareOp .Eq) (fun x y H Q => ∃ a b xs, x = .ref a ∧ y = .ref b ∧ SqL X.K H a xs ∧ SqL X.K H b [] ∧ Q (.bl xs.isEmpty) H) := by
  intro pins s σ H x y v u Q I rx ry h
  obtain ⟨a, b, xs, rfl, rfl, hx, hy, q⟩ := h
  cases rx
  cases ry
  obtain ⟨its, r, pl, hz⟩ := I.list hx
  obtain ⟨its2, r2, pl2, hz2⟩ := I.list hy
  cases r2
  cases r with
  | nil =>
    refine SeqAt.eq_listAt (e := fun _ => true) pl.isList pl2.isList rfl hu (fun j h1 h2 => absurd h2 (by simp)) ?_
    exact fin_bl I q (by simp)
  | cons r1 r' =>
    refine SeqAt.eq_list_lengthsAt pl.isList pl2.isList (by simp) hu ?_
    exact fin_bl I q rfl
end
end L2

set_option Elab.async false
set_option linter.all false
set_option maxRecDepth 100000
set_option maxHeartbeats 4000000
namespace HT
open PySem PySem.Spec PyProof.Rows
section
variable {prog : Program} {w : World} {A : Around} {E : Value → Shared → Prop} {s : Shared}
theorem getItem_tuple_all {t sl : Addr} {items : Array Value} {vl vu : Value} {lo hi : Option Int} {Q : Value → Shared → Prop} (ht : IsTup s.heap t items) (hs : s.heap.IsSliceOf sl vl vu .none) (pl : IsPart vl lo) (pu : IsPart vu hi)
    (hw : sIx items.size 0 lo = 0 ∧ sIx items.size items.size hi = items.size) (h : Q (.ref t) s) : wpAny (model prog w) A (getItem (.ref t) (.ref sl)) Q E s := by
  obtain ⟨os, hos, hcs, hds⟩ := id hs
  have hTs : s.TypeIs (.ref sl) "slice" := ⟨os, hos, hcs⟩
  unfold getItem
  try with_reducible refine wpAny_holding ?_
  first | refine wpAny_bind (wpAny_pure ?_) | skip
  refine wpAny_bind (wpAny_sequenceKey ht.typeIs (by decide) ?_)
  refine wpAny_bind (wpAny_callSpecial?_slot (name := Str.ofString "__getitem__") ht.typeIs PyProof.Rows.slot_tuple_getitem
    (wpAny_call_entry PyProof.Rows.slot_tuple_getitem ht.typeIs entry_tuple_getitem ?_ (args_tuple_getitem _ _)))
  show wpAny _ _ (Builtin.Tuple.tupleItemsOf (.ref t) >>= _) _ _ s
  refine wpAny_bind (tupleItemsOf_ ht ?_)
  refine wpAny_bind (wpAny_typeOf hTs ?_)
  rw [if_pos (by decide)]
  refine wpAny_bind (sliceApplied_gen hs pl pu ?_)
  have hno : ((((sIx items.size 0 lo : Nat) : Int) == 0 && (1 : Int) == 1 && (sIx items.size items.size hi - sIx items.size 0 lo) == items.size) = true) := by
    rw [hw.1, hw.2]; simp
  show wpAny _ _ (if (((sIx items.size 0 lo : Nat) : Int) == 0 && (1 : Int) == 1 && (sIx items.size items.size hi - sIx items.size 0 lo) == items.size) = true then _ else _) _ _ s
  rw [if_pos hno]
  refine wpAny_bind (m := Builtin.Tuple.tupleIsExact _) (wpAny_bind (wpAny_typeOf ht.typeIs (wpAny_pure ?_)))
  rw [if_pos (by decide)]
  refine wpAny_bind (wpAny_rule ?_)
  exact wpAny_pure ⟨_, rfl, wpAny_pure h⟩
end
end HT
namespace L2
open PySem PySem.Spec PyProof.Rows
section
variable {X : Cx}
theorem cutV_all {xs : List V} {lo hi : Option Int} (h : HT.sIx xs.length 0 lo = 0 ∧ HT.sIx xs.length xs.length hi = xs.length) : cutV xs lo hi = xs := by
  unfold cutV
  rw [h.1, h.2, List.drop_zero, Nat.sub_zero, List.take_of_length_le (Nat.le_refl _)]
/-- t * n of a tuple, n from 2 on -/
def rRepT (K : PySem.W.Frag) : R2 := fun x y H Q => ∃ a n xs, x = .ref a ∧ y = .int n ∧ SqT K H a xs ∧ xs ≠ [] ∧ 2 ≤ n ∧ n ≤ 1000 ∧ xs.length ≤ 1000 ∧ ∀ p, H p = none → Q (.ref p) (upd H p (.tup (List.replicate n.toNat xs).flatten))
theorem noFill_tuple_mul : fillsNumberSlot (.type "tuple") "mul" = pure false :=
  PySem.fillsNumberSlot_seq (id := "tuple.__mul__") (r := some (.builtin "tuple.__rmul__")) F.slot_tuple_mul.lookup (by decide +kernel) F.slot_tuple_rmul.lookup (by decide +kernel)
theorem repeat_tuple : seqRepeat? (.type "tuple") = pure (some (.builtin "tuple.__mul__")) := by
  unfold seqRepeat?
  rw [PySem.seqSlot_of (T := "tuple") (name := "__mul__") (id := "tuple.__mul__") F.slot_tuple_mul.lookup (by decide +kernel), PySem.seqSlot_of (T := "tuple") (name := "__rmul__") (id := "tuple.__rmul__") F.slot_tuple_rmul.lookup (by decide +kernel)]
  rfl
theorem int_rmul_tup (a : Int) (t : Tok) (l : Addr) (o : Obj) (items : Array Value) (n : Nat) (hc : o.cls = .type "tuple") (hd : o.data = .seq items n) :
    Meets (Builtin.«int.__rmul__» ⟨[.int a t, .ref l], []⟩) (fun _ R s => s.heap.get? l = some o ∧ R (.ok (.ret Value.notImplemented)) s) :=
  .of_wp fun prog w A R s h => by obtain ⟨hp, g, d, tk, os⟩ := s; obtain ⟨hl, h⟩ := h; cases o; cases hc; cases hd; wp_walk; exact ⟨_, rfl, h⟩
theorem op_repT : OpR X (binaryOp .Mult) (rRepT X.K) := by
  intro pins s σ H x y v u Q I rx ry h
  obtain ⟨a, k, xs, rfl, rfl, hx, hne, h2, h3, hl, q⟩ := h
  cases rx
  obtain ⟨t, rfl⟩ := ry
  obtain ⟨its, r, ht, hz⟩ := I.tuple hx
  obtain ⟨o, e1, e2, n, e3⟩ := id ht
  have hlen : its.toArray.size = xs.length := by rw [List.size_toArray]; exact r.length.symm
  have hpos : 0 < xs.length := List.length_pos_iff.mpr hne
  refine wpAny_binaryOp_repeat_ref (T := "tuple") (U := "int") (by decide) ht.typeIs (fun s' => typeIs_int s' k t) noFill_tuple_mul F.fills_int_mul F.slot_int_rmul repeat_tuple F.slot_int_index.lookup
    (call_meets F.slot_int_rmul (typeIs_int s k t) F.entry_int_rmul (F.args_int_rmul_2 _ _) (int_rmul_tup k t a o _ n e2 e3)
      ⟨e1, rfl, ht.typeIs, ?_⟩)
  refine wpAny_call_entry F.slot_tuple_mul ht.typeIs F.entry_tuple_mul ?_ (F.args_tuple_mul_2 _ _)
  show wpAny _ _ (asIndex (.int k t) >>= _) _ _ s
  refine wpAny_bind (wpAny_of_eq (show asIndex (.int k t) = pure k from rfl) ?_)
  have c1 : ¬ (decide (k < -2 ^ 63) || decide (k ≥ 2 ^ 63)) = true := by
    rw [Bool.or_eq_true, decide_eq_true_iff, decide_eq_true_iff]; omega
  have hie : its.toArray.isEmpty = false := by
    cases its with
    | nil => rw [List.size_toArray] at hlen; simp at hlen; omega
    | cons _ _ => simp
  have c2 : ¬ (its.toArray.isEmpty || k == 1) = true := by
    rw [hie, Bool.false_or, beq_iff_eq]; omega
  have c3 : ¬ (decide (k ≤ 0) || its.toArray.isEmpty) = true := by
    rw [hie, Bool.or_false, decide_eq_true_iff]; omega
  have hm : (its.toArray.size : Int) * k ≤ 1000 * 1000 := Int.mul_le_mul (by omega) h3 (by omega) (by decide)
  have c4 : ¬ (its.toArray.size : Int) * k > (2 ^ 63 - 1) / 8 := by omega
  have c5 : ¬ Builtin.Tuple.tupleTooMany ((its.toArray.size : Int) * k) = true := by
    unfold Builtin.Tuple.tupleTooMany
    rw [decide_eq_true_iff]
    have : sizeLine = 16777216 := sizeLine_eq
    omega
  rw [if_neg c1]
  refine wpAny_bind (tupleItemsOf_ ht ?_)
  rw [if_neg c2, if_neg c3, if_neg c4, if_neg c5]
  have hnew : List.foldl (fun x1 x2 => x1 ++ x2) #[] (List.replicate k.toNat its.toArray) = (List.replicate k.toNat its).flatten.toArray := by
    have := foldl_rep its k.toNat []
    rw [List.nil_append] at this
    exact this
  rw [hnew]
  have hzz : (List.replicate k.toNat its).flatten.length ≤ sizeLine := by
    rw [len_rep]
    have : sizeLine = 16777216 := sizeLine_eq
    have h4 : k.toNat * its.length ≤ 1000 * 1000 := Nat.mul_le_mul (by omega) (by rw [List.size_toArray] at hlen; omega)
    omega
  refine wpAny_bind (m := Builtin.Tuple.tupleExact _) (wpAny_newObj_type ?_ (by show _ ≤ sizeLine; rw [List.size_toArray]; exact hzz))
  refine wpAny_pure ⟨_, rfl, ?_⟩
  refine ⟨.ref s.heap.objs.size, _, I.laid (t' := s.toks) (o := .tup (List.replicate k.toNat xs).flatten) (fun b ob q => Heap.get?_push_of_some _ q) (Nat.le_refl _) ?_, rfl, q _ (I.hok.fresh (Nat.le_refl _))⟩
  exact ⟨by rw [len_rep]; rw [len_rep] at hzz; rw [r.length]; exact hzz, _, r.rep k.toNat, IsTup.new _ _⟩
/-- sum of a list of ints -/
theorem call_sum (hc : X.calm = true) : CallR X (.builtin "sum") (fun xs H Q => ∃ (a : Addr) (ns : List Int), xs = [.ref a] ∧ SqL X.K H a (ns.map V.int) ∧ Q (.int ns.sum) H) := by
  intro pins s σ H xs us Q I r h
  obtain ⟨a, ns, rfl, ha, q⟩ := h
  obtain ⟨u, rfl, ru⟩ := vals1 r
  cases ru
  obtain ⟨its, r1, pl, hz⟩ := I.list ha
  have hi := intsAre_of r1
  obtain ⟨ys, hys⟩ := hi.allInts.items
  have e1 : (intItems ys).toList = its := by rw [← hys]
  have e2 : preSum (numAt ys) ys.size = ns.sum := by
    rw [preSum_eq, List.take_of_length_le (by simp), ← nums_intItems, e1, hi.numsOf]
  refine sum_intListG (I.ok.hd hc) (hys ▸ pl.isList) fun h' tk t' hk => ?_
  rw [e2]
  exact ⟨.int ns.sum, H, I.kept hk, ⟨_, rfl⟩, q⟩
end
end L2

set_option Elab.async false
set_option linter.all false
set_option maxRecDepth 100000
set_option maxHeartbeats 4000000
namespace L2
open PySem PySem.Spec PyProof.Rows
section
variable {X : Cx}
/-- t[lo:hi] of a plain tuple -/
def rSlP : V → Option Int → Option Int → Hp → VK → Prop := fun x lo hi H Q => ∃ a xs, x = .ref a ∧ H a = some (.tup xs) ∧ ∀ p H', Same H H' → H' p = some (.tup (cutV xs lo hi)) → Q (.ref p) H'
theorem sl_tupP : SlR X rSlP := by
  intro pins s σ H x v vl vu lo hi sl Q I rx hs pl pu h
  obtain ⟨a, xs, rfl, hx, q⟩ := h
  by_cases hw : HT.sIx xs.length 0 lo = 0 ∧ HT.sIx xs.length xs.length hi = xs.length
  · cases rx
    obtain ⟨its, r, ht, hz⟩ := I.tuple (SqT.of hx)
    have hlen : its.toArray.size = xs.length := by rw [List.size_toArray]; exact r.length.symm
    refine ⟨"tuple", _, PyProof.Rows.slot_tuple_getitem.lookup, ht.typeIs, ?_⟩
    refine HT.getItem_tuple_all ht hs pl pu (by rw [hlen]; exact hw) ?_
    exact ⟨.ref a, H, I, rfl, q a H (Same.refl H) (by rw [cutV_all hw]; exact hx)⟩
  · exact sl_tup pins s σ H (.ref a) v vl vu lo hi sl Q I rx hs pl pu ⟨a, xs, rfl, SqT.of hx, hw, fun p hp => q p _ (same_upd hp) upd_same⟩
/-- t + u of plain tuples -/
def rCatP : R2 := fun x y H Q => ∃ a b xs ys, x = .ref a ∧ y = .ref b ∧ H a = some (.tup xs) ∧ H b = some (.tup ys) ∧ xs.length + ys.length ≤ sizeLine ∧
  ∀ p H', Same H H' → H' p = some (.tup (xs ++ ys)) → Q (.ref p) H'
theorem op_catP : OpR X (binaryOp .Add) rCatP := by
  intro pins s σ H x y v u Q I rx ry h
  obtain ⟨a, b, xs, ys, rfl, rfl, ha, hb, hz, q⟩ := h
  by_cases hx : xs = []
  · subst hx
    cases rx
    cases ry
    obtain ⟨its, r1, p1, _⟩ := I.tuple (SqT.of ha)
    obtain ⟨its2, r2, p2, _⟩ := I.tuple (SqT.of hb)
    cases r1
    obtain ⟨⟨cls, dd, data, sl⟩, ho, hc, n, hd⟩ := id p1
    obtain ⟨⟨cls2, dd2, data2, sl2⟩, ho2, hc2, n2, hd2⟩ := id p2
    simp only at hc hd hc2 hd2
    subst hc hd hc2 hd2
    exact concat_meets ⟨_, ho, rfl⟩ ⟨_, ho2, rfl⟩ noFill_tuple_add seq_tuple_add PySem.F.slot_tuple_add PySem.F.entry_tuple_add (PySem.F.args_tuple_add_2 _ _)
      (tuple_addW0 a b _ _ n n2 dd dd2 sl sl2 (by simp)) ⟨ho, ho2, ⟨.ref b, H, I, rfl, q b H (Same.refl H) hb⟩⟩
  · refine op_catT pins s σ H (.ref a) (.ref b) v u Q I rx ry ⟨a, b, xs, ys, rfl, rfl, SqT.of ha, SqT.of hb, hx, hz, fun hy => ?_, fun hy p hp => ?_⟩
    · subst hy
      exact q a H (Same.refl H) (by rw [List.append_nil]; exact ha)
    · exact q p _ (same_upd hp) upd_same
theorem pe_imp {e : Expr} {t t' : TE} (h : PE X e t) (i : ∀ σ H Q, t' σ H Q → t σ H Q) : PE X e t' := fun pins s σ H Q I q => h pins s σ H Q I (i σ H Q q)
theorem pa_imp {es : List Expr} {t t' : TA} (h : PA X es t) (i : ∀ σ H Q, t' σ H Q → t σ H Q) : PA X es t' := fun pos pins s σ H Q I q => h pos pins s σ H Q I (i σ H Q q)
end
end L2

set_option Elab.async false
set_option linter.all false
set_option maxRecDepth 100000
set_option maxHeartbeats 4000000
namespace L2
open PySem PySem.Spec PyProof.Rows
/-! ### a call while a list is hidden: what comes back does not reach it -/
def del (H : Hp) (p : Addr) : Hp := fun b => if b = p then none else H b
theorem del_same {H : Hp} {p : Addr} : del H p p = none := by unfold del; rw [if_pos rfl]
theorem del_ne {H : Hp} {p b : Addr} (h : b ≠ p) : del H p b = H b := by unfold del; rw [if_neg h]
section
variable {X : Cx} {pins : List (Addr × Obj)} {σ : St} {H H1 : Hp} {s s1 : Shared}
theorem Inv.nofr {p : Addr} {o : HO} (I : Inv X pins σ H s) (hp : H p = some o) : p ∉ X.fs := fun hb => by
  obtain ⟨_, o, ho, _⟩ := I.ok.funs.mem hb
  have := I.base.free p o ho (I.ok.frf p hb) fun z => I.ok.exfs p z hb
  rw [hp] at this; cases this
theorem Inv.hide {p : Addr} {xs : List V} (I : Inv X pins σ H s) (hp : H p = some (.lst xs)) : ∃ (its : List Value) (n : Nat), Vals xs its ∧ xs.length ≤ sizeLine ∧ Inv X ((p, { cls := .type "list", data := .seq its.toArray n }) :: pins) σ (del H p) s := by
  obtain ⟨hz, its, n, r, e⟩ := I.hok p _ hp
  have nfr := I.nofr hp
  have nl : p ≠ X.env.locals := fun z => by rw [z, I.free] at hp; cases hp
  have none_of : ∀ b, H b = none → del H p b = none := fun b h => by
    by_cases hb : b = p
    · subst hb; exact del_same
    · rw [del_ne hb]; exact h
  refine ⟨its, n, r, hz, I.ok, I.os, I.bare, ⟨I.base.keep, I.base.slot, fun b ob e n hx => none_of b (I.base.free b ob e n hx), I.base.there, fun b xs e => ?_, fun b ob u e => ?_, fun b ps e => ?_⟩, I.loc, I.cell, none_of _ I.free, fun x c e => none_of _ (I.freeC x c e), fun q hq => ?_, fun b u hb => ?_, I.len⟩
  · have q := I.base.tups b xs e
    rw [del_ne (ne_of q hp (by intro z; cases z))]; exact q
  · have q := I.base.frzs b ob u e
    rw [del_ne (ne_of q hp (by intro z; cases z))]; exact q
  · obtain ⟨more, q⟩ := I.base.tbls b ps e
    exact ⟨more, by rw [del_ne (ne_of q hp (by intro z; cases z))]; exact q⟩
  · rcases List.mem_append.mp hq with z | z
    · obtain ⟨q1, q2, q3⟩ := I.pin q (List.mem_append_left _ z)
      exact ⟨q1, none_of _ q2, q3⟩
    · rcases List.mem_cons.mp z with z | z
      · subst z
        exact ⟨e, del_same, nl, nfr, fun v z => by cases z⟩
      · obtain ⟨q1, q2, q3⟩ := I.pin q (List.mem_append_right _ z)
        exact ⟨q1, none_of _ q2, q3⟩
  · have hbp : b ≠ p := fun z => by subst z; rw [del_same] at hb; cases hb
    rw [del_ne hbp] at hb
    refine (I.hok b u hb).stay (fun _ _ _ q => q) (fun c hc => ?_) (fun c ys hc => ?_)
    · rw [del_ne (ne_of hc hp (by intro z; cases z))]; exact hc
    · rw [del_ne (ne_of hc hp (by intro z; cases z))]; exact hc
theorem Inv.unhide {p : Addr} {xs : List V} {its : List Value} {n : Nat} (I : Inv X pins σ H s) (hp : H p = some (.lst xs)) (J : Inv X ((p, { cls := .type "list", data := .seq its.toArray n }) :: pins) σ H1 s1) (r : Vals xs its) (hz : xs.length ≤ sizeLine) :
    H1 p = none ∧ Inv X pins σ (upd H1 p (.lst xs)) s1 := by
  obtain ⟨j1, j2, j3, j4, j5⟩ := J.pin (p, { cls := .type "list", data := .seq its.toArray n }) (List.mem_append_right _ List.mem_cons_self)
  have ne : ∀ b u, H1 b = some u → b ≠ p := fun b u e => ne_of_none e j2
  refine ⟨j2, J.ok, J.os, J.bare, ⟨J.base.keep, J.base.slot, fun b ob e n hx => ?_, J.base.there, fun b xs e => ?_, fun b ob u e => ?_, fun b ps e => ?_⟩, J.loc, J.cell, ?_, fun x c e => ?_, fun q hq => ?_, fun b u e => ?_, J.len⟩
  · have h1 := I.base.free b ob e n hx
    have hb : b ≠ p := fun z => by subst z; rw [hp] at h1; cases h1
    rw [upd_ne hb]
    exact J.base.free b ob e n hx
  · have q := J.base.tups b xs e
    rw [upd_ne (ne _ _ q)]; exact q
  · have q := J.base.frzs b ob u e
    rw [upd_ne (ne _ _ q)]; exact q
  · obtain ⟨more, q⟩ := J.base.tbls b ps e
    exact ⟨more, by rw [upd_ne (ne _ _ q)]; exact q⟩
  · rw [upd_ne (Ne.symm j3)]; exact J.free
  · have h1 := I.freeC x c e
    rw [upd_ne (fun z => by subst z; rw [hp] at h1; cases h1)]; exact J.freeC x c e
  · have h0 := (I.pin q hq).2.1
    have hq' : q ∈ X.pn ++ (p, { cls := .type "list", data := .seq its.toArray n }) :: pins := by
      rcases List.mem_append.mp hq with z | z
      · exact List.mem_append_left _ z
      · exact List.mem_append_right _ (List.mem_cons_of_mem _ z)
    obtain ⟨q1, q2, q3⟩ := J.pin q hq'
    exact ⟨q1, by rw [upd_ne (fun z => by rw [z, hp] at h0; cases h0)]; exact q2, q3⟩
  · by_cases hb : b = p
    · subst hb
      rw [upd_same] at e
      cases e
      exact ⟨hz, its, n, r, j1⟩
    · rw [upd_ne hb] at e
      refine (J.hok b u e).stay (fun _ _ _ q => q) (fun c hc => ?_) (fun c ys hc => ?_)
      · rw [upd_ne (ne _ _ hc)]; exact hc
      · rw [upd_ne (ne _ _ hc)]; exact hc
end
section
variable {X : Cx} {CX : CXT} {k : Nat} {f : Addr} {fd : FuncData} {ps : List Str} {sp : Sp} {E : XK} {x : Str} {p pos : Pos} {e : Expr} {es : List Expr} {t : TA} {ds : List Value} {dvs : List V}
def tCallH (sp : Sp) (dvs : List V) (E : XK) (t : TA) : TE := fun σ H Q => t σ H fun vs H1 => ∃ q xs, H1 q = some (.lst xs) ∧ sp (vs ++ dvs) (del H1 q) (fun v H2 => H2 q = none → Q v (upd H2 q (.lst xs))) E
theorem pe_callH (F : FnOk X.prog X.w X.K X.mg X.base CX k f fd ps sp) (hr : Room k X.A) (hg : Gl X x) (hm : X.mg x = some (.ref f)) (hk : PySem.W.keepIn X.K (.ref f) = true) (hb : Binds X.K fd ps ds) (hd : Vals dvs ds) (hx : Passes CX X E)
    (ha : PA X (e :: es) t) (hdb : (x == ("__debug__" : Str)) = false := by decide) (he : starEach (e :: es) X.env = (false, eval e X.env) :: starEach es X.env := by rfl) (hpl : (backTo pos (starEach es X.env)).any (·.1) = false := by rfl) :
    PE X (.Call (.Name x p) (e :: es) [] pos) (tCallH sp dvs E t) := by
  intro pins s σ H Q I h
  refine wpAny_Call_Name_kw (ld_glob I hg hm ?_ hdb)
  refine PySem.W.callWith_K (h₀ := X.base) I.ok.mod.kin hk (thn (ha pos pins s σ H _ I h) fun us s1 ⟨vs, H1, I1, r, a, xs, hq, q⟩ => ⟨I1.kIn, ?_⟩) he hpl
  obtain ⟨its, n, rv, hz, I2⟩ := I1.hide hq
  refine thn (run_fn F hr hb hd hx I2 r q) fun u s2 ⟨v, H2, J, rv2, q2⟩ => ?_
  obtain ⟨h0, J2⟩ := I1.unhide hq J rv hz
  exact ⟨v, _, J2, rv2, q2 h0⟩
end
end L2

set_option Elab.async false
set_option linter.all false
set_option maxRecDepth 100000
set_option maxHeartbeats 4000000
namespace L2
open PySem PySem.Spec PyProof.Rows
/-! ### a dict of constants, whatever its length up to fifteen -/
def kvOf : List (Option Expr) → List Expr → Option (List (Str × V))
  | [], [] => some []
  | some (.Constant (.str x) _ _) :: ks, v :: vs => (match constV v, kvOf ks vs with
    | some c, some r => some ((x, c) :: r)
    | _, _ => none)
  | _, _ => none
def dictK : Expr → Option (List (Str × V))
  | .Dict ks vs _ => if ks.length ≤ 15 ∧ ks.length = vs.length ∧ 0 < ks.length ∧ ks.all (·.isSome) = true then kvOf ks vs else none
  | _ => none
section
variable {X : Cx}
theorem pe_const {e : Expr} {v : V} (h : constV e = some v) : PE X e (tC v) := by
  cases e with
  | Constant c j p =>
    cases c with
    | int i => cases h; exact pe_int
    | str x => cases h; exact pe_str
    | bool b => cases h; exact pe_bl
    | none => cases h; exact pe_non
    | _ => cases h
  | _ => cases h
theorem pps_of {pos : Pos} : ∀ (ks : List (Option Expr)) (vs : List Expr) {r : List (Str × V)}, kvOf ks vs = some r → PPs X pos ks vs (r.map fun p => (tC (.str p.1), tC p.2)) := by
  intro ks
  induction ks with
  | nil =>
    intro vs r h
    cases vs with
    | nil => cases h; exact pps_nil
    | cons _ _ => cases h
  | cons k ks ih =>
    intro vs r h
    unfold kvOf at h
    split at h
    · rename_i z; cases z
    · rename_i x _ _ ks' v vs' z
      cases z
      split at h
      · rename_i c r' h1 h2
        cases h
        exact pps_cons pe_str (pe_const h1) (ih _ h2)
      · cases h
    · cases h
theorem pairs_of {σ : St} {H : Hp} : ∀ (r : List (Str × V)) {Q : List (V × V) → Hp → Prop}, Q (r.map fun p => (.str p.1, p.2)) H → tPairs (r.map fun p => (tC (.str p.1), tC p.2)) σ H Q := by
  intro r
  induction r with
  | nil => intro Q h; exact h
  | cons p r ih => intro Q h; exact ih h
theorem pe_dict {e : Expr} {r : List (Str × V)} (h : dictK e = some r) : PE X e (fun _ H Q => ∀ p, H p = none → Q (.ref p) (upd H p (.dK (mergeK [] (keyed r))))) := by
  cases e with
  | Dict ks vs pos =>
    have h' : (if ks.length ≤ 15 ∧ ks.length = vs.length ∧ 0 < ks.length ∧ ks.all (·.isSome) = true then kvOf ks vs else none) = some r := h
    split at h'
    · rename_i hk
      obtain ⟨h1, h2, h3, h4⟩ := hk
      refine pe_imp (pe_disp (pps_of ks vs h') h4 h2 (fun z => by rw [z] at h3; simp at h3) h1) fun σ H Q q p hp => ?_
      refine pairs_of r ⟨upd_same, keyed r, ?_, ?_, ?_⟩
      · unfold keyed
        rw [List.map_map]
        rfl
      · have : ∀ (ks : List (Option Expr)) (vs : List Expr) {r : List (Str × V)}, kvOf ks vs = some r → r.length = ks.length := by
          intro ks
          induction ks with
          | nil => intro vs r h; cases vs with
            | nil => cases h; rfl
            | cons _ _ => cases h
          | cons k ks ih =>
            intro vs r h
            unfold kvOf at h
            split at h
            · rename_i z; cases z
            · rename_i x _ _ ks' v vs' z
              cases z
              split at h
              · rename_i c r' h1 h2
                cases h
                rw [List.length_cons, List.length_cons, ih _ h2]
              · cases h
            · cases h
        have e := this ks vs h'
        show (r.map _).length ≤ 15
        rw [List.length_map]
        omega
      · rw [upd_upd]
        exact q p hp
    · cases h'
  | _ => cases h
end
end L2

set_option Elab.async false
set_option linter.all false
set_option maxRecDepth 100000
set_option maxHeartbeats 4000000
namespace L2
open PySem PySem.Spec PyProof.Rows
section
variable {X : Cx}
/-- b is not c, of truths -/
theorem op_isnot_bl : OpR X (compareOp .IsNot) (fun x y H Q => ∃ b c, x = .bl b ∧ y = .bl c ∧ Q (.bl (!decide (b = c))) H) := by
  intro pins s σ H x y v u Q I rx ry h
  obtain ⟨b, c, rfl, rfl, q⟩ := h
  cases rx
  cases ry
  cases b <;> cases c <;> exact wpAny_pure (fin_bl I q rfl)
end
end L2

set_option Elab.async false
set_option linter.all false
set_option maxRecDepth 100000
set_option maxHeartbeats 4000000
namespace K08
open PySem L2
/-! what is a bare form, as the program asks it and as the law asks it: the same -/
inductive Wd where
  | num | name | op | pick | lett | sett | say | take | dow | again | call | own | hole
  deriving DecidableEq
def kindOf (w : Str) : Option Wd :=
  if w = "num" then some .num else if w = "name" then some .name else if w = "op" then some .op else if w = "pick" then some .pick else if w = "let" then some .lett
  else if w = "set" then some .sett else if w = "say" then some .say else if w = "take" then some .take else if w = "do" then some .dow else if w = "again" then some .again
  else if w = "call" then some .call else if w = "own" then some .own else if w = "hole" then some .hole else none
def isTup : Th → Bool
  | .tup _ => true
  | _ => false
section
/- what a name, a sign is: told elsewhere, of things that are no tuples alone -/
variable (nm sg : Th → Bool)
def inRange (t : Th) (most : Option Int) : Bool := match t with
  | .at (.int i) => decide (0 ≤ i) && (match most with | none => true | some m => decide (i ≤ m))
  | _ => false
/-- what stands behind the word: none, or a test of it; how many parts -/
def rule : Wd → Option (Th → Bool) × Nat × Nat
  | .num => (some fun t => inRange t (some 999999999), 0, 0)
  | .name => (some nm, 0, 0)
  | .op => (some sg, 2, 2)
  | .pick => (none, 3, 3)
  | .lett => (none, 2, 2)
  | .sett => (some nm, 1, 1)
  | .say => (none, 1, 1)
  | .take => (none, 0, 0)
  | .dow => (none, 1, 6)
  | .again => (some fun t => inRange t (some 5), 1, 1)
  | .call => (some nm, 0, 6)
  | .own => (some fun t => inRange t none, 0, 0)
  | .hole => (some fun t => inRange t none, 0, 0)
def fitB (r : Option (Th → Bool) × Nat × Nat) (inner : List Th) : Bool := match r with
  | (none, lo, hi) => decide (lo ≤ inner.length) && decide (inner.length ≤ hi) && inner.all isTup
  | (some f, lo, hi) => match inner with
    | [] => false
    | x :: rest => f x && (decide (lo ≤ rest.length) && decide (rest.length ≤ hi) && rest.all isTup)
def nodeB : Th → Bool
  | .tup (.at (.str w) :: inner) => match kindOf w with
    | none => false
    | some k => fitB (rule nm sg k) inner
  | _ => false
mutual
def treeB : Th → Bool
  | .at _ => false
  | .lst _ => false
  | .tup xs => nodeB nm sg (.tup xs) && treesB xs
def treesB : List Th → Bool
  | [] => true
  | x :: xs => (if isTup x = true then treeB x else true) && treesB xs
end
theorem treeB_tup {t : Th} (h : treeB nm sg t = true) : isTup t = true := by
  cases t with
  | «at» v => simp [treeB] at h
  | lst xs => simp [treeB] at h
  | tup xs => rfl
/-- has a thing of its own behind the word -/
def hasOwn : Wd → Bool
  | .own | .hole | .num | .name | .op | .sett | .again | .call => true
  | _ => false
def secondB : Wd → Th → Bool
  | .own, t | .hole, t => inRange t none
  | .num, t => inRange t (some 999999999)
  | .again, t => inRange t (some 5)
  | .op, t => sg t
  | _, t => nm t
def countB (k : Wd) (n : Nat) : Bool := match k with
  | .own | .hole | .num | .name | .take => decide (n = 0)
  | .op | .lett => decide (n = 2)
  | .pick => decide (n = 3)
  | .sett | .say => decide (n = 1)
  | .dow => decide (1 ≤ n) && decide (n ≤ 6)
  | .again => decide (1 ≤ n) && decide (n ≤ 6) && decide (n = 1)
  | .call => decide (n ≤ 6)
mutual
def lawB : Th → Bool
  | .at _ => false
  | .lst _ => false
  | .tup xs => lawT xs
/-- the word, then what stands behind it -/
def lawT : List Th → Bool
  | [] => false
  | x :: rest => match x with
    | .at (.str w) => (match kindOf w with
      | none => false
      | some k => if hasOwn k = true then lawO k rest else countB k rest.length && lawsB rest)
    | _ => false
def lawO (k : Wd) : List Th → Bool
  | [] => false
  | y :: rest => secondB nm sg k y && (countB k rest.length && lawsB rest)
def lawsB : List Th → Bool
  | [] => true
  | x :: xs => lawB x && lawsB xs
end
variable (hnm : ∀ t, nm t = true → isTup t = false) (hsg : ∀ t, sg t = true → isTup t = false)
include hnm hsg
theorem second_flat {k : Wd} {y : Th} (h : secondB nm sg k y = true) : isTup y = false := by
  have hr : ∀ m, inRange y m = true → isTup y = false := fun m q => by
    cases y with
    | tup xs => simp [inRange] at q
    | _ => rfl
  cases k <;> first | exact hr none h | exact hr (some 999999999) h | exact hr (some 5) h | exact hnm _ h | exact hsg _ h
omit hnm hsg in
theorem laws_all : ∀ (xs : List Th), (∀ x ∈ xs, lawB nm sg x = treeB nm sg x) → lawsB nm sg xs = (xs.all isTup && treesB nm sg xs) := by
  intro xs
  induction xs with
  | nil => intro _; simp [lawsB, treesB]
  | cons x xs ih =>
    intro h
    rw [lawsB, treesB, ih (fun y hy => h y (List.mem_cons_of_mem _ hy)), h x (List.mem_cons_self ..), List.all_cons]
    cases hx : isTup x with
    | true => simp; cases treeB nm sg x <;> cases xs.all isTup <;> rfl
    | false =>
      have : treeB nm sg x = false := by
        cases q : treeB nm sg x with
        | false => rfl
        | true => rw [treeB_tup nm sg q] at hx; cases hx
      simp [this]
omit hnm hsg in
theorem count_rule (k : Wd) (n : Nat) : countB k n = (decide ((rule nm sg k).2.1 ≤ n) && decide (n ≤ (rule nm sg k).2.2)) := by
  have lem : ∀ (lo hi : Nat) (q : Bool), (q = true ↔ lo ≤ n ∧ n ≤ hi) → q = (decide (lo ≤ n) && decide (n ≤ hi)) := fun lo hi q h => by
    rw [Bool.eq_iff_iff, h, Bool.and_eq_true, decide_eq_true_iff, decide_eq_true_iff]
  have one : ∀ (p lo hi : Nat), p = lo → p = hi → (decide (n = p) = true ↔ lo ≤ n ∧ n ≤ hi) := fun p lo hi h1 h2 => by
    rw [decide_eq_true_iff]; omega
  cases k with
  | dow => exact lem 1 6 _ (by show (decide (1 ≤ n) && decide (n ≤ 6)) = true ↔ _; rw [Bool.and_eq_true, decide_eq_true_iff, decide_eq_true_iff])
  | again => exact lem 1 1 _ (by show (decide (1 ≤ n) && decide (n ≤ 6) && decide (n = 1)) = true ↔ _; rw [Bool.and_eq_true, Bool.and_eq_true, decide_eq_true_iff, decide_eq_true_iff, decide_eq_true_iff]; omega)
  | call => exact lem 0 6 _ (by show decide (n ≤ 6) = true ↔ _; rw [decide_eq_true_iff]; omega)
  | num => exact lem 0 0 _ (one 0 0 0 rfl rfl)
  | name => exact lem 0 0 _ (one 0 0 0 rfl rfl)
  | take => exact lem 0 0 _ (one 0 0 0 rfl rfl)
  | own => exact lem 0 0 _ (one 0 0 0 rfl rfl)
  | hole => exact lem 0 0 _ (one 0 0 0 rfl rfl)
  | op => exact lem 2 2 _ (one 2 2 2 rfl rfl)
  | lett => exact lem 2 2 _ (one 2 2 2 rfl rfl)
  | pick => exact lem 3 3 _ (one 3 3 3 rfl rfl)
  | sett => exact lem 1 1 _ (one 1 1 1 rfl rfl)
  | say => exact lem 1 1 _ (one 1 1 1 rfl rfl)
theorem node_law {w : Str} {rest : List Th} (h : ∀ x ∈ rest, lawB nm sg x = treeB nm sg x) : lawB nm sg (.tup (.at (.str w) :: rest)) = treeB nm sg (.tup (.at (.str w) :: rest)) := by
  rw [lawB, lawT, treeB, treesB, nodeB]
  simp only [isTup, Bool.false_eq_true, if_false, Bool.true_and]
  cases hk : kindOf w with
  | none => simp
  | some k =>
    simp only []
    cases ho : hasOwn k with
    | true =>
      simp only [if_true]
      have hr : (rule nm sg k).1 = some (secondB nm sg k) := by cases k <;> first | rfl | cases ho
      have e : rule nm sg k = (some (secondB nm sg k), (rule nm sg k).2.1, (rule nm sg k).2.2) := by rw [← hr]
      rw [e]
      cases rest with
      | nil => simp [lawO, fitB]
      | cons y rest =>
        rw [lawO, fitB, treesB, count_rule nm sg, laws_all nm sg rest (fun x hx => h x (List.mem_cons_of_mem _ hx))]
        cases hs : secondB nm sg k y with
        | false => simp
        | true =>
          have hy := second_flat nm sg hnm hsg hs
          simp only [hy, Bool.false_eq_true, if_false, Bool.true_and, Bool.and_assoc]
    | false =>
      simp only [Bool.false_eq_true, if_false]
      have hr : (rule nm sg k).1 = none := by cases k <;> first | rfl | cases ho
      have e : rule nm sg k = (none, (rule nm sg k).2.1, (rule nm sg k).2.2) := by rw [← hr]
      rw [e, fitB, count_rule nm sg, laws_all nm sg rest h]
      simp only [Bool.and_assoc]
mutual
theorem law_tree : ∀ t : Th, lawB nm sg t = treeB nm sg t
  | .at _ => by simp [lawB, treeB]
  | .lst _ => by simp [lawB, treeB]
  | .tup [] => by simp [lawB, lawT, treeB, nodeB]
  | .tup (.at v :: rest) => by
    cases v with
    | str w => exact node_law nm sg hnm hsg (law_trees rest)
    | _ => simp [lawB, lawT, treeB, nodeB]
  | .tup (.tup _ :: _) => by simp [lawB, lawT, treeB, nodeB]
  | .tup (.lst _ :: _) => by simp [lawB, lawT, treeB, nodeB]
theorem law_trees : ∀ ts : List Th, ∀ x ∈ ts, lawB nm sg x = treeB nm sg x
  | [], x, h => by cases h
  | t :: ts, x, h => by
    rcases List.mem_cons.mp h with z | z
    · rw [z]; exact law_tree t
    · exact law_trees ts x z
end
end
end K08

set_option Elab.async false
set_option linter.all false
set_option maxRecDepth 100000
set_option maxHeartbeats 4000000
namespace K08
open PySem L2
def top (i : Nat) : Stmt := PySem.Challenge.pw_likepieces_k08_bare_forms_known.main.body.getD i (.Pass ⟨0, 0, 0, 0⟩)
abbrev sWhole : Stmt := top 6
abbrev sIsName : Stmt := top 7
abbrev sValue : Stmt := top 8
abbrev sSign : Stmt := top 9
abbrev sTimes : Stmt := top 10
abbrev sExprRule : Stmt := top 12
abbrev sNode : Stmt := top 13
abbrev sTree : Stmt := top 14
abbrev sParts : Stmt := top 15
abbrev sNumber : Stmt := top 17
abbrev sBareRule : Stmt := top 19
abbrev sBare : Stmt := top 20
def tyOf : Th → String
  | .at .non => "NoneType"
  | .at (.bl _) => "bool"
  | .at (.int _) => "int"
  | .at (.str _) => "str"
  | .tup _ => "tuple"
  | .lst _ => "list"
  | _ => ""
def isBlT : Th → Bool
  | .at (.bl _) => true
  | _ => false
def isIntT : Th → Bool
  | .at (.int _) => true
  | .at (.bl _) => true
  | _ => false
def isStrT : Th → Bool
  | .at (.str _) => true
  | _ => false
def wholeB : Th → Bool
  | .at (.int _) => true
  | _ => false
theorem whole_eq (t : Th) : (isIntT t && !isBlT t) = wholeB t := by
  cases t with
  | «at» v => cases v <;> rfl
  | tup xs => rfl
  | lst xs => rfl
theorem th_ty {K : PySem.W.Frag} {H : Hp} {v : V} {t : Th} (h : IsTh H v t) : TyOf K H v (.type (tyOf t)) := by
  cases h with
  | «at» f =>
    cases v with
    | non => exact .non
    | bl b => exact .bl b
    | int i => exact .int i
    | str x => exact .str x
    | _ => exact absurd (show false = true from f) Bool.false_ne_true
  | tup e r => exact .tup e
  | lst e r => exact .lst e
structure Kits (K : PySem.W.Frag) : Prop where
  int : ∀ {H : Hp} {v : V} {t : Th}, IsTh H v t → PySem.W.kitOne K (.type (tyOf t)) (.type "int") = some (isIntT t)
  bl : ∀ {H : Hp} {v : V} {t : Th}, IsTh H v t → PySem.W.kitOne K (.type (tyOf t)) (.type "bool") = some (isBlT t)
  str : ∀ {H : Hp} {v : V} {t : Th}, IsTh H v t → PySem.W.kitOne K (.type (tyOf t)) (.type "str") = some (isStrT t)
  tup : ∀ {H : Hp} {v : V} {t : Th}, IsTh H v t → PySem.W.kitOne K (.type (tyOf t)) (.type "tuple") = some (isTup t)
/-- a test of any thing: it changes nothing that was there -/
def spTest (p : Th → Bool) : Sp := fun vs H Q _ => ∃ (v : V) (t : Th), vs = [v] ∧ IsTh H v t ∧ ∀ H', Same H H' → Q (.bl (p t)) H'
structure TxtT (mg : Str → Option Value) : Prop where
  isi : mg "isinstance" = none
  int : mg "int" = none
  bl : mg "bool" = none
  str : mg "str" = none
  tup : mg "tuple" = none
  len : mg "len" = none
  all : mg "all" = none
section
variable {P : Program} {w : World} {K : PySem.W.Frag} {mg : Str → Option Value} {base : Heap}
theorem scWhole : FnScope ["thing"] ["thing"] (defScope sWhole) := ⟨rfl, rfl, rfl, by decide +kernel, rfl, by decide +kernel, by decide +kernel⟩
theorem ok_whole {f : Addr} {fd : FuncData} (F : Fun K "is_whole" "is_whole" sWhole f fd) (T : TxtT mg) (KI : Kits K) : FnOk P w K mg base CX0 1 f fd ["thing"] (spTest wholeB) := by
  refine F.ok scWhole (fun vs H Q E h => ?_) (fun cdv A outer s H vs Q E hr h => ?_)
  · obtain ⟨v, t, rfl, _⟩ := h
    rfl
  · obtain ⟨v, t, rfl, ht, k⟩ := h
    refine ⟨_, pss_one (ps_ret (pe_and (pe_callB call_isinst (by rfl) T.isi (by decide +kernel) (pa_n (pv 0) (pa_n (pe_bltn (v := .ty "int") (by rfl) T.int (by decide +kernel) rfl) pa_nil)))
      (pe_one (pe_not (pe_callB call_isinst (by rfl) T.isi (by decide +kernel) (pa_n (pv 0) (pa_n (pe_bltn (v := .ty "bool") (by rfl) T.bl (by decide +kernel) rfl) pa_nil))))))), ?_⟩
    have kk := whole_eq t
    refine ⟨_, rfl, _, _, _, _, rfl, th_ty ht, KI.int ht, _, rfl, ite2 (fun g => ?_) (fun g => ?_)⟩
    · refine ⟨_, rfl, _, _, _, _, rfl, th_ty ht, KI.bl ht, _, rfl, ?_⟩
      rw [g, Bool.true_and] at kk
      rw [kk]
      exact k H (Same.refl H)
    · rw [show isIntT t = false by simpa using g, Bool.false_and] at kk
      rw [kk]
      exact k H (Same.refl H)
end
section
variable {P : Program} {w : World} {K : PySem.W.Frag} {mg : Str → Option Value} {base : Heap}
theorem scValue : FnScope ["thing"] ["thing"] (defScope sValue) := ⟨rfl, rfl, rfl, by decide +kernel, rfl, by decide +kernel, by decide +kernel⟩
theorem whole_int {t : Th} {H : Hp} {v : V} (h : IsTh H v t) (g : wholeB t = true) : ∃ i : Int, v = .int i ∧ t = .at (.int i) := by
  cases h with
  | «at» f =>
    cases v with
    | int i => exact ⟨i, rfl, rfl⟩
    | _ => exact absurd (show false = true from g) Bool.false_ne_true
  | tup e r => exact absurd (show false = true from g) Bool.false_ne_true
  | lst e r => exact absurd (show false = true from g) Bool.false_ne_true
theorem no_whole {t : Th} (g : wholeB t = false) (m : Option Int) : inRange t m = false := by
  cases t with
  | «at» v =>
    cases v with
    | int i => exact absurd (show true = false from g) (by decide)
    | _ => rfl
  | tup xs => rfl
  | lst xs => rfl
theorem ok_value {f fW : Addr} {fd dW : FuncData} {tk : Tok} (F : Fun K "is_value" "is_value" sValue f fd) (T : TxtT mg) (KI : Kits K) (FW : Fun K "is_whole" "is_whole" sWhole fW dW) (bW : Binds K dW ["thing"] []) (mW : mg "is_whole" = some (.ref fW))
    (hG : mg "GREATEST_VALUE" = some (.int 999999999 tk)) : FnOk P w K mg base CX0 2 f fd ["thing"] (spTest fun t => inRange t (some 999999999)) := by
  have GW : FnOk P w K mg base CX0 1 fW dW ["thing"] (spTest wholeB) := ok_whole FW T KI
  refine F.ok scValue (fun vs H Q E h => ?_) (fun cdv A outer s H vs Q E hr h => ?_)
  · obtain ⟨v, t, rfl, _⟩ := h
    rfl
  · obtain ⟨v, t, rfl, ht, k⟩ := h
    refine ⟨_, pss_one (ps_ret (pe_and (pe_call GW hr (by rfl) mW FW.kp bW .nil pass0 (pa_n (pv 0) pa_nil)) (pe_one (pe_chain op_le op_le pe_int (pv 0) (pe_glob (v := .int 999999999) (by rfl) hG ⟨tk, rfl⟩))))), ?_⟩
    refine ⟨_, rfl, v, t, rfl, ht, fun H1 s1 => ⟨_, rfl, ite2 (fun g => ?_) (fun g => ?_)⟩⟩
    · obtain ⟨i, rfl, rfl⟩ := whole_int ht g
      refine ⟨_, rfl, _, _, rfl, rfl, _, rfl, ite2 (fun g1 => ?_) (fun g1 => ?_)⟩
      · refine ⟨_, _, rfl, rfl, ?_⟩
        have e : inRange (.at (.int i)) (some 999999999) = decide (i ≤ 999999999) := by
          show (decide (0 ≤ i) && decide (i ≤ 999999999)) = _
          rw [g1, Bool.true_and]
        show Q (.bl (decide (i ≤ 999999999))) H1
        rw [← e]
        exact k H1 s1
      · have e : inRange (.at (.int i)) (some 999999999) = false := by
          show (decide (0 ≤ i) && decide (i ≤ 999999999)) = _
          rw [show decide (0 ≤ i) = false by simpa using g1, Bool.false_and]
        exact e ▸ k H1 s1
    · have e := no_whole (show wholeB t = false by simpa using g) (some 999999999)
      exact e ▸ k H1 s1
theorem scTimes : FnScope ["thing"] ["thing"] (defScope sTimes) := ⟨rfl, rfl, rfl, by decide +kernel, rfl, by decide +kernel, by decide +kernel⟩
theorem ok_times {f fW : Addr} {fd dW : FuncData} {tk : Tok} (F : Fun K "is_times" "is_times" sTimes f fd) (T : TxtT mg) (KI : Kits K) (FW : Fun K "is_whole" "is_whole" sWhole fW dW) (bW : Binds K dW ["thing"] []) (mW : mg "is_whole" = some (.ref fW))
    (hG : mg "MOST_TIMES" = some (.int 5 tk)) : FnOk P w K mg base CX0 2 f fd ["thing"] (spTest fun t => inRange t (some 5)) := by
  have GW : FnOk P w K mg base CX0 1 fW dW ["thing"] (spTest wholeB) := ok_whole FW T KI
  refine F.ok scTimes (fun vs H Q E h => ?_) (fun cdv A outer s H vs Q E hr h => ?_)
  · obtain ⟨v, t, rfl, _⟩ := h
    rfl
  · obtain ⟨v, t, rfl, ht, k⟩ := h
    refine ⟨_, pss_one (ps_ret (pe_and (pe_call GW hr (by rfl) mW FW.kp bW .nil pass0 (pa_n (pv 0) pa_nil)) (pe_one (pe_chain op_le op_le pe_int (pv 0) (pe_glob (v := .int 5) (by rfl) hG ⟨tk, rfl⟩))))), ?_⟩
    refine ⟨_, rfl, v, t, rfl, ht, fun H1 s1 => ⟨_, rfl, ite2 (fun g => ?_) (fun g => ?_)⟩⟩
    · obtain ⟨i, rfl, rfl⟩ := whole_int ht g
      refine ⟨_, rfl, _, _, rfl, rfl, _, rfl, ite2 (fun g1 => ?_) (fun g1 => ?_)⟩
      · refine ⟨_, _, rfl, rfl, ?_⟩
        have e : inRange (.at (.int i)) (some 5) = decide (i ≤ 5) := by
          show (decide (0 ≤ i) && decide (i ≤ 5)) = _
          rw [g1, Bool.true_and]
        show Q (.bl (decide (i ≤ 5))) H1
        rw [← e]
        exact k H1 s1
      · have e : inRange (.at (.int i)) (some 5) = false := by
          show (decide (0 ≤ i) && decide (i ≤ 5)) = _
          rw [show decide (0 ≤ i) = false by simpa using g1, Bool.false_and]
        exact e ▸ k H1 s1
    · have e := no_whole (show wholeB t = false by simpa using g) (some 5)
      exact e ▸ k H1 s1
theorem scNumber : FnScope ["thing"] ["thing"] (defScope sNumber) := ⟨rfl, rfl, rfl, by decide +kernel, rfl, by decide +kernel, by decide +kernel⟩
theorem ok_number {f fW : Addr} {fd dW : FuncData} (F : Fun K "is_number" "is_number" sNumber f fd) (T : TxtT mg) (KI : Kits K) (FW : Fun K "is_whole" "is_whole" sWhole fW dW) (bW : Binds K dW ["thing"] []) (mW : mg "is_whole" = some (.ref fW)) :
    FnOk P w K mg base CX0 2 f fd ["thing"] (spTest fun t => inRange t none) := by
  have GW : FnOk P w K mg base CX0 1 fW dW ["thing"] (spTest wholeB) := ok_whole FW T KI
  refine F.ok scNumber (fun vs H Q E h => ?_) (fun cdv A outer s H vs Q E hr h => ?_)
  · obtain ⟨v, t, rfl, _⟩ := h
    rfl
  · obtain ⟨v, t, rfl, ht, k⟩ := h
    refine ⟨_, pss_one (ps_ret (pe_and (pe_call GW hr (by rfl) mW FW.kp bW .nil pass0 (pa_n (pv 0) pa_nil)) (pe_one (pe_cmpR op_ge (pv 0) pe_int (nomark _))))), ?_⟩
    refine ⟨_, rfl, v, t, rfl, ht, fun H1 s1 => ⟨_, rfl, ite2 (fun g => ?_) (fun g => ?_)⟩⟩
    · obtain ⟨i, rfl, rfl⟩ := whole_int ht g
      refine ⟨_, rfl, _, _, rfl, rfl, ?_⟩
      have e : inRange (.at (.int i)) none = decide (0 ≤ i) := by
        show (decide (0 ≤ i) && true) = _
        rw [Bool.and_true]
      show Q (.bl (decide (0 ≤ i))) H1
      rw [← e]
      exact k H1 s1
    · have e := no_whole (show wholeB t = false by simpa using g) none
      exact e ▸ k H1 s1
/-! signs -/
def signsL : List Str := ["+", "-", "*", "/", "<", "="]
def signB : Th → Bool
  | .at (.str x) => inV (.str x) (signsL.map V.str)
  | _ => false
theorem strs_flat (ts : List Str) : (ts.map V.str).all flatV = true := by
  rw [List.all_map]; exact List.all_eq_true.mpr fun _ _ => rfl
theorem scSign : FnScope ["thing"] ["thing"] (defScope sSign) := ⟨rfl, rfl, rfl, by decide +kernel, rfl, by decide +kernel, by decide +kernel⟩
theorem str_is {t : Th} {H : Hp} {v : V} (h : IsTh H v t) (g : isStrT t = true) : ∃ x : Str, v = .str x ∧ t = .at (.str x) ∧ x.length ≤ 1000 := by
  cases h with
  | «at» f =>
    cases v with
    | str x => exact ⟨x, rfl, rfl, of_decide_eq_true f⟩
    | _ => exact absurd (show false = true from g) Bool.false_ne_true
  | tup e r => exact absurd (show false = true from g) Bool.false_ne_true
  | lst e r => exact absurd (show false = true from g) Bool.false_ne_true
theorem no_sign {t : Th} (g : isStrT t = false) : signB t = false := by
  cases t with
  | «at» v =>
    cases v with
    | str x => exact absurd (show true = false from g) (by decide)
    | _ => rfl
  | tup xs => rfl
  | lst xs => rfl
theorem ok_sign {f aS : Addr} {fd : FuncData} (F : Fun K "is_sign" "is_sign" sSign f fd) (T : TxtT mg) (KI : Kits K) (mS : mg "SIGNS" = some (.ref aS)) (hS : ∀ H, SqT K H aS (signsL.map V.str)) :
    FnOk P w K mg base CX0 1 f fd ["thing"] (spTest signB) := by
  refine F.ok scSign (fun vs H Q E h => ?_) (fun cdv A outer s H vs Q E hr h => ?_)
  · obtain ⟨v, t, rfl, _⟩ := h
    rfl
  · obtain ⟨v, t, rfl, ht, k⟩ := h
    refine ⟨_, pss_one (ps_ret (pe_and (pe_callB call_isinst (by rfl) T.isi (by decide +kernel) (pa_n (pv 0) (pa_n (pe_bltn (v := .ty "str") (by rfl) T.str (by decide +kernel) rfl) pa_nil)))
      (pe_one (pe_cmpR op_in_seq (pv 0) (pe_glob (v := .ref aS) (by rfl) mS rfl) (by with_unfolding_all rfl))))), ?_⟩
    refine ⟨_, rfl, _, _, _, _, rfl, th_ty ht, KI.str ht, _, rfl, ite2 (fun g => ?_) (fun g => ?_)⟩
    · obtain ⟨x, rfl, rfl, hx⟩ := str_is ht g
      exact ⟨_, rfl, aS, signsL.map V.str, rfl, .inr (hS H), rfl, strs_flat _, k H (Same.refl H)⟩
    · have e := no_sign (show isStrT t = false by simpa using g)
      exact e ▸ k H (Same.refl H)
end
end K08

set_option Elab.async false
set_option linter.all false
set_option maxRecDepth 100000
set_option maxHeartbeats 4000000
namespace K08
open PySem L2
/-! names -/
def wordsV : List V := [.str "num", .str "name", .str "op", .str "pick", .str "let", .str "set", .str "say", .str "take", .str "do", .str "again", .str "call", .str "own", .str "hole"]
/-- a small letter -/
def az (c : Nat) : Bool := decide (97 ≤ c) && decide (c ≤ 122)
def isNameB (x : Str) : Bool := decide (1 ≤ x.length) && (decide (x.length ≤ 8) && (!inV (.str x) wordsV && x.cps.toList.all az))
theorem str_a : ("a" : Str).cps.toList = [97] := by decide +kernel
theorem str_z : ("z" : Str).cps.toList = [122] := by decide +kernel
theorem lt_one (a b : Nat) : ([a] < [b]) ↔ a < b := by simp [List.cons_lt_cons_iff]
theorem lt_a (c : Nat) : decide ((⟨#[c]⟩ : Str).cps.toList < ("a" : Str).cps.toList) = decide (c < 97) := by
  rw [str_a]
  show decide ([c] < [97]) = _
  exact decide_eq_decide.mpr (lt_one _ _)
theorem gt_z (c : Nat) : decide (("z" : Str).cps.toList < (⟨#[c]⟩ : Str).cps.toList) = decide (122 < c) := by
  rw [str_z]
  show decide ([122] < [c]) = _
  exact decide_eq_decide.mpr (lt_one _ _)
theorem take_next {α β : Type} {l : List α} {i : Nat} {c : α} (f : α → β) (h : l[i]? = some c) : (l.take (i + 1)).map f = (l.take i).map f ++ [f c] := by
  rw [List.take_add_one, h]; simp
theorem take_nextF {α β : Type} {l : List α} {i : Nat} {c : α} (p : α → Bool) (f : α → β) (h : l[i]? = some c) : ((l.take (i + 1)).filter p).map f = ((l.take i).filter p).map f ++ (if p c = true then [f c] else []) := by
  rw [List.take_add_one, h, List.filter_append, List.map_append]
  cases hp : p c <;> simp [hp]
theorem wordsFlat : wordsV.all flatV = true := by decide +kernel
theorem kit_same (K : PySem.W.Frag) (T : String) : PySem.W.kitOne K (.type T) (.type T) = some true := by
  unfold PySem.W.kitOne
  rw [if_pos (beq_self_eq_true _)]
/-- what is no text -/
def NoStr (K : PySem.W.Frag) (H : Hp) (v : V) : Prop := ∃ ty, TyOf K H v ty ∧ PySem.W.kitOne K ty (.type "str") = some false
def spName (K : PySem.W.Frag) : Sp := fun vs H Q _ => ∃ v, vs = [v] ∧ ((∃ x : Str, v = .str x ∧ x.length ≤ 1000 ∧ ∀ H', Same H H' → Q (.bl (isNameB x)) H') ∨ (NoStr K H v ∧ ∀ H', Same H H' → Q (.bl false) H'))
structure TxtN (K : PySem.W.Frag) (mg : Str → Option Value) (aW : Addr) : Prop where
  len : mg "len" = none
  isi : mg "isinstance" = none
  str : mg "str" = none
  all : mg "all" = none
  long : ∃ tk, mg "LONGEST_NAME" = some (.int 8 tk)
  words : mg "WORDS" = some (.ref aW)
  tup : ∀ H, SqT K H aW wordsV
theorem len_small {x : Str} (h : x.length ≤ 1000) : x.length ≤ sizeLine := Nat.le_trans h (by decide)
section
variable {P : Program} {w : World} {K : PySem.W.Frag} {mg : Str → Option Value} {base : Heap}
theorem scName : FnScope ["thing"] ["thing"] (defScope sIsName) := ⟨rfl, rfl, rfl, by decide +kernel, rfl, by decide +kernel, by decide +kernel⟩
theorem ok_name {f aW : Addr} {fd : FuncData} (F : Fun K "is_name" "is_name" sIsName f fd) (T : TxtN K mg aW) : FnOk P w K mg base CX0 1 f fd ["thing"] (spName K) := by
  refine F.ok scName (fun vs H Q E h => ?_) (fun cdv A outer s H vs Q E hr h => ?_)
  · obtain ⟨v, rfl, _⟩ := h
    rfl
  · obtain ⟨v, rfl, h⟩ := h
    obtain ⟨tk, hlong⟩ := T.long
    refine ⟨_, pss_cons (ps_if (pw_or (pt_not (pt_val (pe_callB call_isinst (by rfl) T.isi (by decide +kernel) (pa_cons (pv 0) (pa_cons (pe_bltn (v := .ty "str") (by rfl) T.str (by decide +kernel) rfl) pa_nil)))))
        (pw_or (pt_not (pt_chain op_le op_le pe_int (pe_callB call_len_str (by rfl) T.len PySem.boot_len (pa_cons (pv 0) pa_nil)) (pe_glob (v := .int 8) (by rfl) hlong ⟨tk, rfl⟩)))
        (pw_or1 (pt_cmpR op_in_seq (pv 0) (pe_glob (v := .ref aW) (by rfl) T.words rfl) (by with_unfolding_all rfl))))).pt (pss_one (ps_ret pe_bl)) pss_nil) <|
      pss_one (ps_ret (pe_callB (call_all_of rfl) (by rfl) T.all (by decide +kernel) (pa_cons (pe_comp (N' := ["sign"]) (src := [none]) rfl (compScope_of (defScope sIsName) rfl ["thing"] rfl (by decide +kernel)) (pi_str (pv 0))
        (fun cl C ex s0 H0 => ⟨pg_name (i := 0) (nd1 _) rfl (Or.inl rfl), pts_nil, pe_chain op_le_str op_le_str pe_str (pv 0) pe_str⟩)) pa_nil))), ?_⟩
    rcases h with ⟨x, rfl, hx, k⟩ | ⟨⟨ty, hty, hk⟩, k⟩
    · have hl := len_small hx
      refine ⟨_, rfl, _, _, .type "str", true, rfl, .str x, kit_same _ _, _, rfl, iteF ?_⟩
      refine ⟨_, rfl, x, rfl, hl, _, _, rfl, rfl, _, rfl, ?_⟩
      refine ite2 (fun h1 => ?_) (fun h1 => ?_)
      · refine ⟨_, _, rfl, rfl, _, rfl, ?_⟩
        refine ite2 (fun h2 => ?_) (fun h2 => ?_)
        · refine iteT ?_
          have e : isNameB x = false := by
            unfold isNameB
            have : decide (x.length ≤ 8) = false := by
              rw [decide_eq_false_iff_not]
              intro z
              rw [Bool.not_eq_true', decide_eq_false_iff_not] at h2
              exact h2 (by omega)
            rw [this, Bool.false_and, Bool.and_false]
          rw [e] at k
          exact k H (Same.refl H)
        · refine ⟨_, rfl, aW, wordsV, rfl, .inr (T.tup H), rfl, wordsFlat, _, rfl, ?_⟩
          refine ite2 (fun h3 => ?_) (fun h3 => ?_)
          · have e : isNameB x = false := by
              unfold isNameB
              have h3' : inV (.str x) wordsV = true := h3
              rw [h3', Bool.not_true, Bool.false_and, Bool.and_false, Bool.and_false]
            rw [e] at k
            exact k H (Same.refl H)
          · refine ⟨_, rfl, x, rfl, comp_str (x := x) (fun i ys σc H' => ∃ o, σc = [o] ∧ ys = (x.cps.toList.take i).map (fun c => V.bl (az c)) ∧ H' = H) ⟨none, rfl, rfl, rfl⟩ ?_ ?_⟩
            · rintro i c ys σc H' hc hi ⟨o, rfl, rfl, rfl⟩
              have hc' : x.cps.toList[i]? = some c := by simpa using hc
              refine ⟨?_, ?_⟩
              · rw [List.length_map, List.length_take]
                have h2 : x.cps.toList.length = x.length := by simp [Str.length]
                have h3 : x.cps.size = x.length := rfl
                have : sizeLine = 16777216 := sizeLine_eq
                omega
              · refine ⟨_, rfl, _, _, rfl, rfl, _, rfl, ?_⟩
                refine ite2 (fun g1 => ?_) (fun g1 => ?_)
                · refine ⟨_, _, rfl, rfl, nx hi ⟨_, rfl, ?_, rfl⟩⟩
                  rw [take_next _ hc', gt_z]
                  rw [lt_a, Bool.not_eq_true', decide_eq_false_iff_not] at g1
                  congr 2
                  unfold az
                  rw [decide_eq_true (show 97 ≤ c by omega), Bool.true_and]
                  rw [show (!decide (122 < c)) = decide (c ≤ 122) by
                    by_cases q : 122 < c
                    · rw [decide_eq_true q, decide_eq_false (by omega)]; rfl
                    · rw [decide_eq_false q, decide_eq_true (by omega)]; rfl]
                · refine nx hi ⟨_, rfl, ?_, rfl⟩
                  rw [take_next _ hc']
                  rw [lt_a, Bool.not_eq_true', decide_eq_false_iff_not] at g1
                  congr 2
                  unfold az
                  rw [decide_eq_false (show ¬ 97 ≤ c by omega), Bool.false_and]
            · rintro ys σc H' ⟨o, rfl, rfl, rfl⟩ l hl'
              refine ⟨l, x.cps.toList.map az, rfl, SqL.of ?_, ?_⟩
              · rw [upd_same, List.take_of_length_le (by simp), List.map_map]; rfl
              · have e : isNameB x = (x.cps.toList.map az).all id := by
                  unfold isNameB
                  have h1' : decide (1 ≤ x.length) = true := by
                    rw [decide_eq_true_eq] at h1 ⊢
                    omega
                  have h2' : decide (x.length ≤ 8) = true := by
                    rw [Bool.not_eq_true', decide_eq_false_iff_not, Classical.not_not] at h2
                    rw [decide_eq_true_eq]
                    omega
                  have h3' : inV (.str x) wordsV = false := by
                    cases q : inV (.str x) wordsV with
                    | false => rfl
                    | true => exact absurd q h3
                  rw [h1', h2', h3', List.all_map]
                  rfl
                rw [← e]
                exact k _ (same_upd hl')
      · refine ⟨_, rfl, iteT (iteT ?_)⟩
        have e : isNameB x = false := by
          unfold isNameB
          have : decide (1 ≤ x.length) = false := by
            rw [decide_eq_true_eq] at h1
            rw [decide_eq_false_iff_not]
            omega
          rw [this, Bool.false_and]
        rw [e] at k
        exact k H (Same.refl H)
    · refine ⟨_, rfl, _, _, ty, false, rfl, hty, hk, _, rfl, iteT (iteT ?_)⟩
      exact k H (Same.refl H)
def nameB : Th → Bool
  | .at (.str x) => isNameB x
  | _ => false
theorem no_name {t : Th} (g : isStrT t = false) : nameB t = false := by
  cases t with
  | «at» v =>
    cases v with
    | str x => exact absurd (show true = false from g) (by decide)
    | _ => rfl
  | tup xs => rfl
  | lst xs => rfl
theorem ok_nameT {f aW : Addr} {fd : FuncData} (F : Fun K "is_name" "is_name" sIsName f fd) (T : TxtN K mg aW) (KI : Kits K) : FnOk P w K mg base CX0 1 f fd ["thing"] (spTest nameB) :=
  (ok_name F T).imp fun vs H Q E h => by
    obtain ⟨v, t, rfl, ht, k⟩ := h
    refine ⟨v, rfl, ?_⟩
    cases g : isStrT t with
    | true =>
      obtain ⟨x, rfl, rfl, hx⟩ := str_is ht g
      exact .inl ⟨x, rfl, hx, k⟩
    | false =>
      refine .inr ⟨⟨_, th_ty ht, by rw [KI.str ht, g]⟩, fun H' s => ?_⟩
      have e := no_name g
      exact e ▸ k H' s
end
/-! the rules by words -/
section
variable {P : Program} {w : World} {K : PySem.W.Frag} {mg : Str → Option Value} {base : Heap}
/-- a rule's tuple in the module: what fits, least, most -/
def RuleAt (K : PySem.W.Frag) (fits : Addr → Th → Bool) (Pf : Addr → Prop) (v : V) : Option (Option (Th → Bool) × Nat × Nat) → Prop
  | none => v = .non
  | some (fo, lo, hi) => ∃ (a : Addr) (fv : V), v = .ref a ∧ (∀ H, SqT K H a [fv, .int lo, .int hi]) ∧ (match fo with
    | none => fv = .non
    | some p => ∃ f, fv = .ref f ∧ Pf f ∧ fits f = p)
/-- the dicts of rules -/
structure Tables (K : PySem.W.Frag) (w : World) (mg : Str → Option Value) (fits : Addr → Th → Bool) (Pf : Addr → Prop) (aR aB : Addr) (kvR kvB : List (Str × V)) : Prop where
  mR : mg "RULES" = some (.ref aR)
  mB : mg "BARE_RULES" = some (.ref aB)
  dR : KDict K w aR kvR
  dB : KDict K w aB kvB
  at_ : ∀ x : Str, RuleAt K fits Pf ((getT kvB x).getD ((getT kvR x).getD .non)) ((kindOf x).map (rule nameB signB))
def spExprRule (kvR : List (Str × V)) : Sp := fun vs H Q _ => ∃ x : Str, vs = [.str x] ∧ Q ((getT kvR x).getD .non) H
def spBareRule (K : PySem.W.Frag) (fits : Addr → Th → Bool) (Pf : Addr → Prop) : Sp := fun vs H Q _ => ∃ x : Str, vs = [.str x] ∧ ∀ v, RuleAt K fits Pf v ((kindOf x).map (rule nameB signB)) → Q v H
variable {fits : Addr → Th → Bool} {Pf : Addr → Prop} {aR aB : Addr} {kvR kvB : List (Str × V)}
theorem scExprRule : FnScope ["word"] ["word"] (defScope sExprRule) := ⟨rfl, rfl, rfl, by decide +kernel, rfl, by decide +kernel, by decide +kernel⟩
theorem ok_exprrule {f : Addr} {fd : FuncData} (F : Fun K "expression_rule" "expression_rule" sExprRule f fd) (TA : Tables K w mg fits Pf aR aB kvR kvB) : FnOk P w K mg base CX0 1 f fd ["word"] (spExprRule kvR) := by
  refine F.ok scExprRule (fun vs H Q E h => ?_) (fun cdv A outer s H vs Q E hr h => ?_)
  · obtain ⟨x, rfl, _⟩ := h
    rfl
  · obtain ⟨x, rfl, k⟩ := h
    refine ⟨_, pss_one (ps_ret (pe_kget1 (pe_glob (v := .ref aR) (by rfl) TA.mR rfl) (pv 0) ⟨rfl, rfl, rfl, rfl⟩)), ?_⟩
    exact ⟨aR, kvR, rfl, TA.dR, _, rfl, x, rfl, k⟩
theorem scBareRule : FnScope ["word"] ["word"] (defScope sBareRule) := ⟨rfl, rfl, rfl, by decide +kernel, rfl, by decide +kernel, by decide +kernel⟩
theorem ok_barerule {f fE : Addr} {fd dE : FuncData} (F : Fun K "bare_rule" "bare_rule" sBareRule f fd) (TA : Tables K w mg fits Pf aR aB kvR kvB) (FE : Fun K "expression_rule" "expression_rule" sExprRule fE dE) (bE : Binds K dE ["word"] []) (mE : mg "expression_rule" = some (.ref fE)) :
    FnOk P w K mg base CX0 2 f fd ["word"] (spBareRule K fits Pf) := by
  have GE : FnOk P w K mg base CX0 1 fE dE ["word"] (spExprRule kvR) := ok_exprrule FE TA
  refine F.ok scBareRule (fun vs H Q E h => ?_) (fun cdv A outer s H vs Q E hr h => ?_)
  · obtain ⟨x, rfl, _⟩ := h
    rfl
  · obtain ⟨x, rfl, k⟩ := h
    refine ⟨_, pss_one (ps_ret (pe_kget2 (pe_glob (v := .ref aB) (by rfl) TA.mB rfl) (pv 0) (pe_call GE hr (by rfl) mE FE.kp bE .nil pass0 (pa_n (pv 0) pa_nil)) ⟨rfl, rfl, rfl, rfl⟩)), ?_⟩
    exact ⟨aB, kvB, rfl, TA.dB, _, rfl, x, rfl, _, rfl, x, rfl, k _ (TA.at_ x)⟩
end
end K08

set_option Elab.async false
set_option linter.all false
set_option maxRecDepth 100000
set_option maxHeartbeats 4000000
namespace K08
open PySem L2
abbrev nodeT (t : Th) : Bool := nodeB nameB signB t
def spNode (fR : Addr) : Sp := fun vs H Q _ => ∃ (v : V) (t : Th), vs = [v, .ref fR] ∧ IsTh H v t ∧ ∀ H', Same H H' → Q (.bl (nodeT t)) H'
theorem cut1 (v : V) (vs : List V) : cutV (v :: vs) (some 1) none = vs := by
  have e1 : HT.sIx (v :: vs).length 0 (some 1) = 1 := by
    show min 1 (vs.length + 1) = 1
    omega
  have e2 : HT.sIx (v :: vs).length (v :: vs).length none = vs.length + 1 := rfl
  unfold cutV
  rw [e1, e2]
  show List.take (vs.length + 1 - 1) vs = vs
  rw [Nat.add_sub_cancel, List.take_length]
theorem nowhole1 (v : V) (vs : List V) (hi : Option Int) : ¬ (HT.sIx (v :: vs).length 0 (some 1) = 0 ∧ HT.sIx (v :: vs).length (v :: vs).length hi = (v :: vs).length) := fun z => by
  have e1 : HT.sIx (v :: vs).length 0 (some 1) = 1 := by
    show min 1 (vs.length + 1) = 1
    omega
  rw [e1] at z
  cases z.1
theorem at_head (v : V) (vs : List V) : atI (v :: vs) 0 = some v := atI_nat (j := 0) rfl
theorem ths_get {H : Hp} : ∀ (vs : List V) {ts : List Th} {i : Nat} {v : V}, IsThs H vs ts → vs[i]? = some v → ∃ t, ts[i]? = some t ∧ IsTh H v t := by
  intro vs
  induction vs with
  | nil => intro ts i v h e; cases e
  | cons u vs ih =>
    intro ts i v h e
    cases h with
    | cons a b =>
      cases i with
      | zero =>
        have e' : u = v := by simpa using e
        subst e'
        exact ⟨_, rfl, a⟩
      | succ i =>
        rw [List.getElem?_cons_succ] at e
        obtain ⟨t, e1, e2⟩ := ih b e
        exact ⟨t, by rw [List.getElem?_cons_succ]; exact e1, e2⟩
section
variable {P : Program} {w : World} {K : PySem.W.Frag} {mg : Str → Option Value} {base : Heap}
variable {fits : Addr → Th → Bool} {Pf : Addr → Prop}
theorem scNode : FnScope ["thing", "rule_of", "rule", "fits", "least", "most", "inner"] ["thing", "rule_of"] (defScope sNode) := ⟨rfl, rfl, rfl, by decide +kernel, rfl, by decide +kernel, by decide +kernel⟩
/-- behind the first test -/
def Nod1 (fR : Addr) (H : Hp) (v : V) (t : Th) : St → Hp → Prop := fun σ' H' => σ' = [some v, some (.ref fR), none, none, none, none, none] ∧ H' = H ∧
  ∃ (x : Str) (a : Addr) (vs : List V) (ts : List Th), v = .ref a ∧ t = .tup (.at (.str x) :: ts) ∧ H a = some (.tup (.str x :: vs)) ∧ IsThs H vs ts
/-- behind what fits -/
def Nod2 (fR : Addr) (K : PySem.W.Frag) (H : Hp) (v : V) (t : Th) : St → Hp → Prop := fun σ' H' => ∃ (o2 o3 : Option V) (lo hi : Nat) (q : Addr) (rest : List V) (restT : List Th), σ' = [some v, some (.ref fR), o2, o3, some (.int lo), some (.int hi), some (.ref q)] ∧ hi ≤ 6 ∧ Same H H' ∧
  H' q = some (.tup rest) ∧ IsThs H' rest restT ∧ nodeT t = (decide (lo ≤ restT.length) && decide (restT.length ≤ hi) && restT.all isTup)
theorem ok_node {f fR : Addr} {fd dR : FuncData} (F : Fun K "is_node" "is_node" sNode f fd) (T : TxtT mg) (KI : Kits K)
    (GR : ∀ g, g = fR → ∃ fd ps, FnOk P w K mg base CX0 2 g fd ps (spBareRule K fits Pf) ∧ PySem.W.keepIn K (.ref g) = true ∧ Binds K fd ps [])
    (GF : ∀ g, Pf g → ∃ fd ps, FnOk P w K mg base CX0 2 g fd ps (spTest (fits g)) ∧ PySem.W.keepIn K (.ref g) = true ∧ Binds K fd ps []) :
    FnOk P w K mg base CX0 3 f fd ["thing", "rule_of"] (spNode fR) := by
  refine F.ok scNode (fun vs H Q E h => ?_) (fun cdv A outer s H vs Q E hr h => ?_)
  · obtain ⟨v, t, rfl, _⟩ := h
    rfl
  · obtain ⟨v, t, rfl, ht, k⟩ := h
    have hsz : sizeLine = 16777216 := sizeLine_eq
    refine' ⟨?tt, ?body, ?fin⟩
    case body =>
      refine' pss_cut ?s1 (pss_cons ?s2 (pss_cons ?s3 (pss_cons ?s4 (pss_cons ?s5 (pss_cut ?s6 (pss_one ?s7))))))
      case s1 =>
        refine' ps_if ?c (pss_one (ps_ret pe_bl)) pss_nil
        case c =>
          exact (pw_or (pt_not (pt_val (pe_callB call_isinst (by rfl) T.isi (by decide +kernel) (pa_n (pv 0) (pa_n (pe_bltn (v := .ty "tuple") (by rfl) T.tup (by decide +kernel) rfl) pa_nil)))))
            (pw_or (pt_cmpR op_eq (pe_callB call_len_seq (by rfl) T.len PySem.boot_len (pa_n (pv 0) pa_nil)) pe_int (nomark _))
            (pw_or1 (pt_not (pt_val (pe_callB call_isinst (by rfl) T.isi (by decide +kernel) (pa_cons (pe_ix ix_tup (pv 0) pe_int (fun _ _ => rfl)) (pa_n (pe_bltn (v := .ty "str") (by rfl) T.str (by decide +kernel) rfl) pa_nil)))))))).pt
      case s2 => exact ps_set (i := 2) scNode.nd rfl (Or.inl rfl) (pe_callV (Pf := fun g => g = fR) (sp := fun _ => spBareRule K fits Pf) GR hr pass0 (pv 1) (pa_cons (pe_ix ix_tup (pv 0) pe_int (fun _ _ => rfl)) pa_nil))
      case s3 => exact ps_if (pt_cmp (pc_isN (pv 2))) (pss_one (ps_ret pe_bl)) pss_nil
      case s4 => exact ps_asg (pv 2) (pg_tup rfl (pgs_cons (pg_name (i := 3) scNode.nd rfl (Or.inl rfl)) <| pgs_cons (pg_name (i := 4) scNode.nd rfl (Or.inl rfl)) <| pgs_cons (pg_name (i := 5) scNode.nd rfl (Or.inl rfl)) pgs_nil))
      case s5 => exact ps_set (i := 6) scNode.nd rfl (Or.inl rfl) (pe_slice sl_tup (pv 0) (po_some pe_int) po_none)
      case s6 =>
        refine' ps_if ?c (pss_cons ?b1 (pss_one ?b2)) pss_nil
        case c => exact pt_cmp (pc_notN (pv 3))
        case b1 =>
          refine' ps_if ?d (pss_one (ps_ret pe_bl)) pss_nil
          case d => exact (pw_or (pt_cmpR op_eq (pe_callB call_len_seq (by rfl) T.len PySem.boot_len (pa_n (pv 6) pa_nil)) pe_int (nomark _))
            (pw_or1 (pt_not (pt_val (pe_callV (Pf := Pf) (sp := fun g => spTest (fits g)) GF hr pass0 (pv 3) (pa_cons (pe_ix ix_tup (pv 6) pe_int (fun _ _ => rfl)) pa_nil)))))).pt
        case b2 => exact ps_set (i := 6) scNode.nd rfl (Or.inl rfl) (pe_slice sl_tup (pv 6) (po_some pe_int) po_none)
      case s7 =>
        refine' ps_ret (pe_and ?x (pe_one ?y))
        case x => exact pe_chain op_le op_le (pv 4) (pe_callB call_len_seq (by rfl) T.len PySem.boot_len (pa_n (pv 6) pa_nil)) (pv 5)
        case y => exact pe_callB (call_all_of rfl) (by rfl) T.all (by decide +kernel) (pa_cons (pe_comp (N' := ["part"]) (src := [none]) rfl (compScope_of (defScope sNode) rfl ["thing", "rule_of", "rule", "fits", "least", "most", "inner"] rfl (by decide +kernel)) (pi_tup (pv 6))
          (fun cl C ex s0 H0 => ⟨pg_name (i := 0) (nd1 _) rfl (Or.inl rfl), pts_nil, pe_callB (id := "isinstance") (call_isinstK (K := K) rfl) (by rfl) T.isi (by decide +kernel) (pa_n (pv 0) (pa_n (pe_bltn (v := .ty "tuple") (by rfl) T.tup (by decide +kernel) rfl) pa_nil))⟩)) pa_nil)
    case fin =>
      have kf : ∀ H', Same H H' → nodeT t = false → Q (.bl false) H' := fun H' sm e => e ▸ k H' sm
      refine ⟨Nod1 fR H v t, ?_, ?_⟩
      · cases ht with
        | «at» f =>
          refine ⟨_, rfl, _, _, _, _, rfl, th_ty (.at f), KI.tup (H := H) (.at f), _, rfl, iteT (iteT (kf H (Same.refl H) ?_))⟩
          rfl
        | lst e r =>
          refine ⟨_, rfl, _, _, _, _, rfl, th_ty (.lst e r), KI.tup (H := H) (.lst e r), _, rfl, iteT (iteT (kf H (Same.refl H) ?_))⟩
          rfl
        | @tup a vs ts e r =>
          refine ⟨_, rfl, _, _, _, _, rfl, th_ty (.tup e r), KI.tup (H := H) (.tup e r), _, rfl, iteF ?_⟩
          refine ⟨_, rfl, a, vs, rfl, .inr (SqT.of e), rfl, _, rfl, ?_⟩
          cases r with
          | nil => exact ite2 (fun _ => iteT (kf H (Same.refl H) rfl)) (fun g => absurd (by decide) g)
          | @cons v0 vs0 t0 ts0 h0 r0 =>
            refine ite2 (fun g => ?_) (fun _ => ?_)
            · have g' := of_decide_eq_true g
              injection g' with g''
              rw [List.length_cons] at g''
              omega
            · refine ⟨_, rfl, a, _, 0, v0, rfl, rfl, SqT.of e, at_head _ _, _, _, _, _, rfl, th_ty h0, KI.str h0, _, rfl, ?_⟩
              cases g : isStrT t0 with
              | false =>
                refine iteT (kf H (Same.refl H) ?_)
                cases t0 with
                | «at» z =>
                  cases z with
                  | str x => cases g
                  | _ => rfl
                | tup _ => rfl
                | lst _ => rfl
              | true =>
                obtain ⟨x, rfl, rfl, hx⟩ := str_is h0 g
                exact iteF ⟨rfl, rfl, x, a, vs0, ts0, rfl, rfl, e, r0⟩
      rintro σ1 H1 ⟨rfl, rfl, x, a, vs, ts, rfl, rfl, ha, hts⟩
      refine ⟨_, rfl, fR, rfl, rfl, _, rfl, a, _, 0, .str x, rfl, rfl, SqT.of ha, at_head _ _, x, rfl, fun rv hrv => ?_⟩
      cases hk : kindOf x with
      | none =>
        rw [hk] at hrv
        have e : rv = .non := hrv
        subst e
        refine ⟨_, rfl, _, rfl, iteT (kf H1 (Same.refl H1) ?_)⟩
        show (match kindOf x with | none => false | some k => fitB (rule nameB signB k) ts) = false
        rw [hk]
      | some kk =>
        have hn : nodeT (.tup (.at (.str x) :: ts)) = fitB (rule nameB signB kk) ts := by
          show (match kindOf x with | none => false | some k => fitB (rule nameB signB k) ts) = _
          rw [hk]
        rw [hk] at hrv
        obtain ⟨fo, lo, hi, hru⟩ : ∃ fo lo hi, rule nameB signB kk = (fo, lo, hi) := ⟨_, _, _, rfl⟩
        have hi6 : hi ≤ 6 := by
          have : (rule nameB signB kk).2.2 ≤ 6 := by cases kk <;> decide
          rw [hru] at this
          exact this
        rw [hru] at hn
        have hrv' : RuleAt K fits Pf rv (some (fo, lo, hi)) := by rw [← hru]; exact hrv
        obtain ⟨a2, fv, e2, hsq, hfo⟩ := hrv'
        subst e2
        refine ⟨_, rfl, _, rfl, ite2 (fun g => absurd (of_decide_eq_true g) (by intro z; cases z)) (fun _ => ?_)⟩
        refine ⟨_, rfl, a2, _, rfl, hsq H1, rfl, _, _, rfl, _, _, rfl, _, _, rfl, rfl, ?_⟩
        refine ⟨_, rfl, _, rfl, a, _, rfl, SqT.of ha, nowhole1 _ _ _, fun p hp => ?_⟩
        rw [cut1]
        have sp1 := same_upd (o := .tup vs) hp
        have hp1 : upd H1 p (.tup vs) p = some (.tup vs) := upd_same
        have hts1 := IsThs.kp (Kp.of sp1) hts
        generalize upd H1 p (.tup vs) = H2 at sp1 hp1 hts1 ⊢
        have hl := IsThs.len _ hts1
        refine ⟨Nod2 fR K H1 (.ref a) (.tup (.at (.str x) :: ts)), ?_, ?_⟩
        · cases fo with
          | none =>
            have e3 : fv = .non := hfo
            subst e3
            refine ⟨_, rfl, _, rfl, iteF ⟨_, _, lo, hi, p, vs, ts, rfl, hi6, sp1, hp1, hts1, hn⟩⟩
          | some pr =>
            obtain ⟨g, e3, hPf, hfit⟩ := hfo
            subst e3
            refine ⟨_, rfl, _, rfl, ite2 (fun _ => ?_) (fun q => absurd (by rw [decide_eq_false (by intro z; cases z)]; rfl) q)⟩
            refine ⟨_, rfl, p, vs, rfl, .inr (SqT.of hp1), rfl, _, rfl, ?_⟩
            cases hts1 with
            | nil => exact ite2 (fun _ => iteT (kf H2 sp1 hn)) (fun q => absurd (by decide) q)
            | @cons v1 vs1 t1 ts1 h1 r1 =>
              refine ite2 (fun q => ?_) (fun _ => ?_)
              · have q' := of_decide_eq_true q
                injection q' with q''
                rw [List.length_cons] at q''
                omega
              · refine ⟨_, rfl, g, rfl, hPf, _, rfl, p, _, 0, v1, rfl, rfl, SqT.of hp1, at_head _ _, v1, t1, rfl, h1, fun H3 s3 => ⟨_, rfl, ?_⟩⟩
                have hn' : nodeT (.tup (.at (.str x) :: t1 :: ts1)) = (pr t1 && (decide (lo ≤ ts1.length) && decide (ts1.length ≤ hi) && ts1.all isTup)) := hn
                rw [hfit]
                cases hq : pr t1 with
                | false =>
                  rw [hq, Bool.false_and] at hn'
                  exact iteT (kf H3 (sp1.trans s3) hn')
                | true =>
                  rw [hq, Bool.true_and] at hn'
                  refine iteF ⟨_, rfl, _, rfl, p, _, rfl, SqT.of (s3 _ _ hp1), nowhole1 _ _ _, fun p2 hp2 => ?_⟩
                  rw [cut1]
                  exact ⟨_, _, lo, hi, p2, vs1, ts1, rfl, hi6, (sp1.trans s3).trans (same_upd hp2), upd_same, IsThs.kp (Kp.of (same_upd hp2)) (IsThs.kp (Kp.of s3) r1), hn'⟩
        rintro σ3 H3 ⟨o2, o3, lo3, hi3, q, rest, restT, rfl, h63, s3, hq3, hr3, hn3⟩
        have hl3 := IsThs.len _ hr3
        have kk : ∀ b H', Same H3 H' → b = (decide (lo3 ≤ restT.length) && decide (restT.length ≤ hi3) && restT.all isTup) → Q (.bl b) H' := fun b H' sm e => by
          rw [e, ← hn3]; exact k H' (s3.trans sm)
        refine ⟨_, rfl, _, rfl, q, rest, rfl, .inr (SqT.of hq3), _, _, rfl, rfl, _, rfl, ite2 (fun g1 => ?_) (fun g1 => ?_)⟩
        · have g1' : lo3 ≤ restT.length := by
            have := of_decide_eq_true g1
            omega
          refine ⟨_, rfl, _, _, rfl, rfl, _, rfl, ite2 (fun g2 => ?_) (fun g2 => ?_)⟩
          · have g2' : restT.length ≤ hi3 := by
              have := of_decide_eq_true g2
              omega
            refine ⟨_, rfl, q, rfl, ⟨_, SqT.of hq3⟩, comp_tup (K := K) (a := q) (xs := rest) (fun i ys σc H' => ∃ o, σc = [o] ∧ ys = (restT.take i).map (fun t => V.bl (isTup t)) ∧ H' = H3) ⟨none, rfl, rfl, rfl⟩ (fun i ys σc H' ⟨_, _, _, e⟩ => by rw [e]; exact SqT.of hq3) ?_ ?_⟩
            · rintro i x1 ys σc H' hx hi ⟨o, rfl, rfl, rfl⟩
              obtain ⟨t1, ht1, h1⟩ := ths_get _ hr3 hx
              refine ⟨by rw [List.length_map, List.length_take]; omega, ?_⟩
              refine ⟨_, rfl, _, _, _, _, rfl, th_ty h1, KI.tup h1, nx hi ⟨_, rfl, ?_, rfl⟩⟩
              rw [List.take_add_one, ht1, List.map_append]
              rfl
            · rintro ys σc H' ⟨o, rfl, rfl, rfl⟩ l hl'
              refine ⟨l, restT.map isTup, rfl, SqL.of ?_, ?_⟩
              · rw [upd_same, hl3, List.take_length, List.map_map]; rfl
              · refine kk _ _ (same_upd hl') ?_
                rw [decide_eq_true g1', decide_eq_true g2', List.all_map]
                rfl
          · refine kk _ _ (Same.refl _) ?_
            have g2' : ¬ restT.length ≤ hi3 := fun z => g2 (decide_eq_true (by omega))
            rw [decide_eq_false g2', Bool.and_false, Bool.false_and]
        · refine ⟨_, rfl, iteF (kk _ _ (Same.refl _) ?_)⟩
          have g1' : ¬ lo3 ≤ restT.length := fun z => g1 (decide_eq_true (by omega))
          rw [decide_eq_false g1', Bool.false_and, Bool.false_and]
end
end K08

set_option Elab.async false
set_option linter.all false
set_option maxRecDepth 100000
set_option maxHeartbeats 4000000
namespace K08
open PySem L2
mutual
def Th.sz : Th → Nat
  | .at _ => 1
  | .tup xs => 1 + szs xs
  | .lst xs => 1 + szs xs
def szs : List Th → Nat
  | [] => 0
  | x :: xs => Th.sz x + szs xs
end
theorem sz_pos (t : Th) : 1 ≤ Th.sz t := by
  cases t with
  | «at» v => simp [Th.sz]
  | tup xs => simp [Th.sz]
  | lst xs => simp [Th.sz]
theorem szs_app : ∀ us ws : List Th, szs (us ++ ws) = szs us + szs ws := by
  intro us
  induction us with
  | nil => intro ws; simp [szs]
  | cons u us ih => intro ws; rw [List.cons_append, szs, szs, ih]; omega
theorem szs_filter : ∀ ts : List Th, szs (ts.filter isTup) ≤ szs ts := by
  intro ts
  induction ts with
  | nil => simp [szs]
  | cons t ts ih =>
    rw [List.filter_cons]
    split
    · rw [szs, szs]; omega
    · rw [szs]; omega
theorem szs_len : ∀ ts : List Th, ts.length ≤ szs ts := by
  intro ts
  induction ts with
  | nil => simp [szs]
  | cons t ts ih => have := sz_pos t; rw [List.length_cons, szs]; omega
abbrev treeT (t : Th) : Bool := treeB nameB signB t
theorem trees_all : ∀ ts : List Th, treesB nameB signB ts = (ts.filter isTup).all treeT := by
  intro ts
  induction ts with
  | nil => simp [treesB]
  | cons t ts ih =>
    rw [treesB, List.filter_cons, ih]
    cases h : isTup t with
    | true => simp
    | false => simp
theorem tree_no {t : Th} (h : nodeT t = false) : treeT t = false := by
  cases t with
  | «at» v => simp [treeT, treeB]
  | lst xs => simp [treeT, treeB]
  | tup xs =>
    show treeB nameB signB (.tup xs) = false
    rw [treeB, show nodeB nameB signB (.tup xs) = false from h, Bool.false_and]
theorem tree_yes {t : Th} (h : nodeT t = true) : ∃ ts, t = .tup ts ∧ treeT t = (ts.filter isTup).all treeT := by
  cases t with
  | «at» v => cases h
  | lst xs => cases h
  | tup xs =>
    refine ⟨xs, rfl, ?_⟩
    show treeB nameB signB (.tup xs) = _
    rw [treeB, show nodeB nameB signB (.tup xs) = true from h, Bool.true_and, trees_all]
theorem ths_last {H : Hp} : ∀ (ws : List V) {us : List Th}, IsThs H ws us → ws ≠ [] → ∃ ws' y us' u, ws = ws' ++ [y] ∧ us = us' ++ [u] ∧ IsThs H ws' us' ∧ IsTh H y u := by
  intro ws
  induction ws with
  | nil => intro us h n; exact absurd rfl n
  | cons v vs ih =>
    intro us h _
    cases h with
    | @cons _ _ t ts a b =>
      cases vs with
      | nil => cases b; exact ⟨[], v, [], t, rfl, rfl, .nil, a⟩
      | cons v2 vs2 =>
        obtain ⟨ws', y, us', u, e1, e2, h1, h2⟩ := ih b (by intro z; cases z)
        exact ⟨v :: ws', y, t :: us', u, by rw [e1]; rfl, by rw [e2]; rfl, .cons a h1, h2⟩
def spParts : Sp := fun vs H Q _ => ∃ (H0 : Hp) (a : Addr) (xs : List V) (ts : List Th), vs = [.ref a] ∧ Same H0 H ∧ H a = some (.tup xs) ∧ IsThs H0 xs ts ∧ xs.length ≤ 1000000 ∧
  ∀ (p : Addr) (ws : List V) H', Same H H' → H' p = some (.tup ws) → IsThs H0 ws (ts.filter isTup) → Q (.ref p) H'
def spTree (fR : Addr) : Sp := fun vs H Q _ => ∃ (v : V) (t : Th), vs = [v, .ref fR] ∧ IsTh H v t ∧ Th.sz t ≤ 1000000 ∧ ∀ H', Same H H' → Q (.bl (treeT t)) H'
section
variable {P : Program} {w : World} {K : PySem.W.Frag} {mg : Str → Option Value} {base : Heap}
theorem scParts : FnScope ["e"] ["e"] (defScope sParts) := ⟨rfl, rfl, rfl, by decide +kernel, rfl, by decide +kernel, by decide +kernel⟩
theorem ok_parts {f : Addr} {fd : FuncData} (F : Fun K "parts" "parts" sParts f fd) (T : TxtT mg) (KI : Kits K) : FnOk P w K mg base CX0 1 f fd ["e"] spParts := by
  refine F.ok scParts (fun vs H Q E h => ?_) (fun cdv A outer s H vs Q E hr h => ?_)
  · obtain ⟨H0, a, xs, ts, rfl, _⟩ := h
    rfl
  · obtain ⟨H0, a, xs, ts, rfl, s0, ha, hts, hz, k⟩ := h
    refine ⟨_, pss_one (ps_ret (pe_callTy call_tuple_of (by rfl) T.tup (by decide +kernel) (pa_cons (pe_comp (N' := ["part"]) (src := [none]) rfl (compScope_of (defScope sParts) rfl ["e"] rfl (by decide +kernel)) (pi_tup (pv 0))
      (fun cl C ex s0 H0 => ⟨pg_name (i := 0) (nd1 _) rfl (Or.inl rfl), pts_one (pt_val (pe_callB (id := "isinstance") (call_isinstK (K := K) rfl) (by rfl) T.isi (by decide +kernel) (pa_n (pv 0) (pa_n (pe_bltn (v := .ty "tuple") (by rfl) T.tup (by decide +kernel) rfl) pa_nil)))), pv 0⟩)) pa_nil))), ?_⟩
    have hl := IsThs.len _ hts
    refine ⟨_, rfl, a, rfl, ⟨_, SqT.of ha⟩, comp_tup (K := K) (a := a) (xs := xs) (fun i ys σc H' => ∃ o, σc = [o] ∧ IsThs H0 ys ((ts.take i).filter isTup) ∧ ys.length ≤ i ∧ H' = H) ⟨none, rfl, by rw [List.take_zero]; exact .nil, Nat.le_refl _, rfl⟩ (fun i ys σc H' ⟨_, _, _, _, e⟩ => by rw [e]; exact SqT.of ha) ?_ ?_⟩
    · rintro i x ys σc H' hx hi ⟨o, rfl, hys, hyl, rfl⟩
      obtain ⟨t, ht, h1⟩ := ths_get _ hts hx
      have hnext : (ts.take (i + 1)).filter isTup = (ts.take i).filter isTup ++ (if isTup t = true then [t] else []) := take_nextR _ ht
      refine ⟨by have : sizeLine = 16777216 := sizeLine_eq; omega, ?_⟩
      refine ⟨_, rfl, _, _, _, _, rfl, th_ty (IsTh.kp (Kp.of s0) h1), KI.tup h1, _, rfl, ite2 (fun g => ?_) (fun g => ?_)⟩
      · refine ⟨_, rfl, nx hi ⟨_, rfl, ?_, by rw [List.length_append]; show ys.length + 1 ≤ i + 1; omega, rfl⟩⟩
        rw [hnext, if_pos g]
        exact IsThs.app _ hys (.cons h1 .nil)
      · refine nx hi ⟨_, rfl, ?_, by omega, rfl⟩
        rw [hnext, if_neg g, List.append_nil]
        exact hys
    · rintro ys σc H' ⟨o, rfl, hys, hyl, rfl⟩ l hl'
      refine ⟨l, _, rfl, .inl ⟨SqL.of upd_same, fun p hp => ?_⟩⟩
      rw [List.take_of_length_le (by omega)] at hys
      exact k p ys _ ((same_upd hl').trans (same_upd hp)) upd_same hys
theorem scTree : FnScope ["thing", "rule_of", "waiting", "node"] ["thing", "rule_of"] (defScope sTree) := ⟨rfl, rfl, rfl, by decide +kernel, rfl, by decide +kernel, by decide +kernel⟩
theorem ok_tree {f fN fP fR : Addr} {fd dN dP : FuncData} (F : Fun K "is_tree" "is_tree" sTree f fd) (T : TxtT mg) (KI : Kits K)
    (GN : FnOk P w K mg base CX0 3 fN dN ["thing", "rule_of"] (spNode fR)) (FN : Fun K "is_node" "is_node" sNode fN dN) (bN : Binds K dN ["thing", "rule_of"] []) (mN : mg "is_node" = some (.ref fN))
    (FP : Fun K "parts" "parts" sParts fP dP) (bP : Binds K dP ["e"] []) (mP : mg "parts" = some (.ref fP)) : FnOk P w K mg base CX0 4 f fd ["thing", "rule_of"] (spTree fR) := by
  have GP : FnOk P w K mg base CX0 1 fP dP ["e"] spParts := ok_parts FP T KI
  refine F.ok scTree (fun vs H Q E h => ?_) (fun cdv A outer s H vs Q E hr h => ?_)
  · obtain ⟨v, t, rfl, _⟩ := h
    rfl
  · obtain ⟨v, t, rfl, ht, hz, k⟩ := h
    have hsz : sizeLine = 16777216 := sizeLine_eq
    have hr1 : Room 1 _ := hr.mono (by decide)
    refine' ⟨?tt, ?body, ?fin⟩
    case body =>
      refine' pss_cut ?s1 (pss_cons ?s2 (pss_one ?s3))
      case s1 => exact ps_set (i := 2) scTree.nd rfl (Or.inl rfl) (pe_lst (pa_n (pv 0) pa_nil))
      case s2 =>
        refine' ps_while PassesOwn.never ?c (pss_cons ?b1 (pss_cons ?b2 (pss_one ?b3)))
        case c => exact pt_truth (pv 2) (fun _ => rfl)
        case b1 => exact ps_set (i := 3) scTree.nd rfl (Or.inl rfl) (pe_bm0 PySem.F.plainAttrs_list PySem.F.slot_list_pop PySem.F.type_list_pop mt_pop (pv 2))
        case b2 => exact ps_if (pt_not (pt_val (pe_call GN hr (by rfl) mN FN.kp bN .nil pass0 (pa_n (pv 3) (pa_n (pv 1) pa_nil))))) (pss_one (ps_ret pe_bl)) pss_nil
        case b3 => exact ps_expr (pe_bm PySem.F.plainAttrs_list PySem.F.slot_list_extend PySem.F.type_list_extend mt_extendT (pv 2) (pa_c (pe_call GP hr1 (by rfl) mP FP.kp bP .nil pass0 (pa_n (pv 3) pa_nil)) pa_nil))
      case s3 => exact ps_ret pe_bl
    case fin =>
      refine ⟨fun σ' H' => ∃ wl, H wl = none ∧ σ' = [some v, some (.ref fR), some (.ref wl), none] ∧ H' = upd H wl (.lst [v]), ⟨_, rfl, (by show 1 ≤ sizeLine; decide), fun wl hwl => ⟨wl, hwl, rfl, rfl⟩⟩, ?_⟩
      rintro σ0 H0 ⟨wl, hwl, rfl, rfl⟩
      refine while_m (fun m σ H' => ∃ (ws : List V) (us : List Th) (o : Option V), σ = [some v, some (.ref fR), some (.ref wl), o] ∧ Same H H' ∧ H' wl = some (.lst ws) ∧ IsThs H ws us ∧ m = szs us ∧ szs us ≤ 1000000 ∧ treeT t = us.all treeT)
        (szs [t]) ⟨[v], [t], none, rfl, same_upd hwl, upd_same, .cons ht .nil, rfl, by simp [szs]; exact hz, by simp⟩ ?_ ?_
      · rintro m σ H1 ⟨ws, us, o, rfl, s1, L1, hth, rfl, hsz1, htree⟩
        refine ⟨_, rfl, _, .inl ⟨ws, SqL.of L1, rfl⟩, ?_⟩
        cases hws : ws.isEmpty with
        | true =>
          have e : ws = [] := List.isEmpty_iff.mp hws
          subst e
          cases hth
          refine iteF ?_
          have e2 : treeT t = true := by rw [htree]; rfl
          exact e2 ▸ k H1 s1
        | false =>
          have hne : ws ≠ [] := fun z => by rw [z] at hws; cases hws
          obtain ⟨ws', y, us', u, rfl, rfl, hth', hy⟩ := ths_last ws hth hne
          refine iteT ?_
          refine ⟨_, rfl, .inl ⟨rfl, _, SqL.of L1⟩, wl, _, y, rfl, rfl, L1, (by rw [List.length_append]; simp), ?_⟩
          rw [List.dropLast_concat]
          have s2 : Same H (upd H1 wl (.lst ws')) := fun b ob e => by rw [upd_ne (ne_of_none e hwl)]; exact s1 b ob e
          have L2 : upd H1 wl (.lst ws') wl = some (.lst ws') := upd_same
          generalize upd H1 wl (.lst ws') = H2 at s2 L2 ⊢
          refine ⟨_, rfl, _, rfl, y, u, rfl, IsTh.kp (Kp.of s2) hy, fun H3 s3 => ⟨_, rfl, ?_⟩⟩
          rw [szs_app] at hsz1
          have hu1 : szs [u] = Th.sz u := by simp [szs]
          rw [List.all_append] at htree
          cases hn : nodeT u with
          | false =>
            refine iteT ?_
            have e2 : treeT t = false := by
              rw [htree]
              show (us'.all treeT && (treeT u && true)) = false
              rw [tree_no hn]; simp
            exact e2 ▸ k H3 (s2.trans s3)
          | true =>
            obtain ⟨ts, rfl, htu⟩ := tree_yes hn
            cases hy with
            | @tup a xs _ ha hxs =>
              have hl := IsThs.len _ hxs
              have hle := szs_len ts
              have hsu : Th.sz (.tup ts) = 1 + szs ts := by simp [Th.sz]
              have s23 := s2.trans s3
              refine iteF ⟨_, rfl, .inl ⟨rfl, _, SqL.of (s3 _ _ L2)⟩, _, rfl, H, a, xs, ts, rfl, s23, s23 _ _ ha, hxs, by omega, fun p ps H4 s4 hp4 hps => ?_⟩
              have hf := szs_filter ts
              have hlp := IsThs.len _ hps
              have hlf := szs_len (ts.filter isTup)
              have hlw := IsThs.len _ hth'
              have hlu := szs_len us'
              refine ⟨wl, p, ws', ps, rfl, rfl, s4 _ _ (s3 _ _ L2), hp4, by omega, ?_⟩
              refine ⟨szs (us' ++ ts.filter isTup), by rw [szs_app, szs_app, hu1]; omega, ws' ++ ps, us' ++ ts.filter isTup, _, rfl, ?_, upd_same, ?_, rfl, by rw [szs_app]; omega, ?_⟩
              · intro b ob e
                rw [upd_ne (ne_of_none e hwl)]
                exact s4 _ _ (s23 _ _ e)
              · exact IsThs.app _ hth' hps
              · rw [htree, List.all_append, ← htu]
                show (us'.all treeT && (treeT (.tup ts) && true)) = _
                rw [Bool.and_true]
      · rintro σ H1 Q1 Q2 hq ⟨u1, e1, b1, e2, q⟩
        exact ⟨u1, e1, b1, e2, hq _ _ q⟩
def spBare : Sp := fun vs H Q _ => ∃ (v : V) (t : Th), vs = [v] ∧ IsTh H v t ∧ Th.sz t ≤ 1000000 ∧ ∀ H', Same H H' → Q (.bl (treeT t)) H'
theorem scBare : FnScope ["thing"] ["thing"] (defScope sBare) := ⟨rfl, rfl, rfl, by decide +kernel, rfl, by decide +kernel, by decide +kernel⟩
theorem ok_bare {f fT fR : Addr} {fd dT : FuncData} (F : Fun K "is_bare" "is_bare" sBare f fd) (GT : FnOk P w K mg base CX0 4 fT dT ["thing", "rule_of"] (spTree fR)) (FT : Fun K "is_tree" "is_tree" sTree fT dT) (bT : Binds K dT ["thing", "rule_of"] []) (mT : mg "is_tree" = some (.ref fT))
    (mR : mg "bare_rule" = some (.ref fR)) : FnOk P w K mg base CX0 5 f fd ["thing"] spBare := by
  refine F.ok scBare (fun vs H Q E h => ?_) (fun cdv A outer s H vs Q E hr h => ?_)
  · obtain ⟨v, t, rfl, _⟩ := h
    rfl
  · obtain ⟨v, t, rfl, ht, hz, k⟩ := h
    refine ⟨_, pss_one (ps_ret (pe_call GT hr (by rfl) mT FT.kp bT .nil pass0 (pa_n (pv 0) (pa_n (pe_glob (v := .ref fR) (by rfl) mR rfl) pa_nil)))), ?_⟩
    exact ⟨_, rfl, v, t, rfl, ht, hz, k⟩
end
end K08

set_option Elab.async false
set_option linter.all false
set_option maxRecDepth 100000
set_option maxHeartbeats 4000000
namespace K08
open PySem L2
abbrev sLawWhole : Stmt := top 33
/-- the greatest, or none -/
def MostV (mv : V) (most : Option Int) : Prop := match most with
  | none => mv = .non
  | some m => mv = .int m
def spLawWhole : Sp := fun vs H Q _ => ∃ (v mv : V) (t : Th) (most : Option Int), vs = [v, mv] ∧ IsTh H v t ∧ MostV mv most ∧ ∀ H', Same H H' → Q (.bl (inRange t most)) H'
section
variable {P : Program} {w : World} {K : PySem.W.Frag} {mg : Str → Option Value} {base : Heap}
theorem scLawWhole : FnScope ["_law_thing", "_law_most"] ["_law_thing", "_law_most"] (defScope sLawWhole) := ⟨rfl, rfl, rfl, by decide +kernel, rfl, by decide +kernel, by decide +kernel⟩
theorem ok_lawwhole {f : Addr} {fd : FuncData} (F : Fun K "_law_whole" "_law_whole" sLawWhole f fd) (T : TxtT mg) (KI : Kits K) : FnOk P w K mg base CX0 1 f fd ["_law_thing", "_law_most"] spLawWhole := by
  refine F.ok scLawWhole (fun vs H Q E h => ?_) (fun cdv A outer s H vs Q E hr h => ?_)
  · obtain ⟨v, mv, t, most, rfl, _⟩ := h
    rfl
  · obtain ⟨v, mv, t, most, rfl, ht, hm, k⟩ := h
    refine' ⟨?tt, ?body, ?fin⟩
    case body =>
      refine' pss_one (ps_ret (pe_and ?a (pe_and ?b (pe_and ?c (pe_one (pe_or ?d (pe_one ?e)))))))
      case a => exact pe_callB call_isinst (by rfl) T.isi (by decide +kernel) (pa_n (pv 0) (pa_n (pe_bltn (v := .ty "int") (by rfl) T.int (by decide +kernel) rfl) pa_nil))
      case b => exact pe_not (pe_callB call_isinst (by rfl) T.isi (by decide +kernel) (pa_n (pv 0) (pa_n (pe_bltn (v := .ty "bool") (by rfl) T.bl (by decide +kernel) rfl) pa_nil)))
      case c => exact pe_cmpR op_ge (pv 0) pe_int (nomark _)
      case d => exact pe_cmp (pc_isN (pv 1))
      case e => exact pe_cmpR op_le (pv 0) (pv 1) (nomark _)
    case fin =>
      cases hw : wholeB t with
      | false =>
        have e := no_whole hw most
        have kf : Q (.bl false) H := e ▸ k H (Same.refl H)
        have hq := whole_eq t
        rw [hw] at hq
        refine ⟨_, rfl, _, _, _, _, rfl, th_ty ht, KI.int ht, _, rfl, ite2 (fun g => ?_) (fun g => kf)⟩
        rw [g, Bool.true_and] at hq
        exact ⟨_, rfl, _, _, _, _, rfl, th_ty ht, KI.bl ht, _, rfl, _, rfl, ite2 (fun z => by rw [hq] at z; cases z) (fun _ => kf)⟩
      | true =>
        obtain ⟨i, rfl, rfl⟩ := whole_int ht hw
        refine ⟨_, rfl, _, _, _, _, rfl, th_ty ht, KI.int ht, _, rfl, iteT ⟨_, rfl, _, _, _, _, rfl, th_ty ht, KI.bl ht, _, rfl, _, rfl, iteT ⟨_, rfl, _, _, rfl, rfl, _, rfl, ite2 (fun g => ?_) (fun g => ?_)⟩⟩⟩
        · cases most with
          | none =>
            have e : mv = .non := hm
            subst e
            refine ⟨_, rfl, _, rfl, iteT ?_⟩
            have e2 : inRange (.at (.int i)) none = true := by
              show (decide (0 ≤ i) && true) = true
              rw [Bool.and_true]; exact g
            exact e2 ▸ k H (Same.refl H)
          | some m =>
            have e : mv = .int m := hm
            subst e
            refine ⟨_, rfl, _, rfl, ite2 (fun z => absurd (of_decide_eq_true z) (by intro q; cases q)) (fun _ => ⟨_, rfl, _, rfl, _, _, rfl, rfl, ?_⟩)⟩
            have e2 : inRange (.at (.int i)) (some m) = decide (i ≤ m) := by
              show (decide (0 ≤ i) && decide (i ≤ m)) = _
              rw [show decide (0 ≤ i) = true from g, Bool.true_and]
            show Q (.bl (decide (i ≤ m))) H
            rw [← e2]
            exact k H (Same.refl H)
        · have e2 : inRange (.at (.int i)) most = false := by
            show (decide (0 ≤ i) && _) = false
            rw [show decide (0 ≤ i) = false by simpa using g, Bool.false_and]
          exact e2 ▸ k H (Same.refl H)
end
end K08

set_option Elab.async false
set_option linter.all false
set_option maxRecDepth 100000
set_option maxHeartbeats 4000000
namespace K08
open PySem L2
abbrev sLawIsName : Stmt := top 34
abbrev wordsText : Str := "num name op pick let set say take do again call own hole"
theorem split_words : (splitL wordsText " ").map V.str = wordsV := by decide +kernel
abbrev abcT : Str := "abcdefghijklmnopqrstuvwxyz"
theorem abc_list : abcT.cps.toList = (List.range 26).map (97 + ·) := by decide +kernel
theorem abc_az (c : Nat) : decide (c ∈ abcT.cps.toList) = az c := by
  rw [abc_list, Bool.eq_iff_iff, decide_eq_true_iff]
  unfold az
  rw [Bool.and_eq_true, decide_eq_true_iff, decide_eq_true_iff, List.mem_map]
  constructor
  · rintro ⟨i, hi, rfl⟩
    rw [List.mem_range] at hi
    omega
  · intro h
    exact ⟨c - 97, List.mem_range.mpr (by omega), by omega⟩
section
variable {P : Program} {w : World} {K : PySem.W.Frag} {mg : Str → Option Value} {base : Heap}
theorem scLawIsName : FnScope ["_law_thing", "_law_words"] ["_law_thing"] (defScope sLawIsName) := ⟨rfl, rfl, rfl, by decide +kernel, rfl, by decide +kernel, by decide +kernel⟩
theorem ok_lawisname {f : Addr} {fd : FuncData} (F : Fun K "_law_is_name" "_law_is_name" sLawIsName f fd) (T : TxtT mg) (KI : Kits K) : FnOk P w K mg base CX0 1 f fd ["_law_thing"] (spTest nameB) := by
  refine F.ok scLawIsName (fun vs H Q E h => ?_) (fun cdv A outer s H vs Q E hr h => ?_)
  · obtain ⟨v, t, rfl, _⟩ := h
    rfl
  · obtain ⟨v, t, rfl, ht, k⟩ := h
    have hu0 := hr.units0
    refine' ⟨?tt, ?body, ?fin⟩
    case body =>
      refine' pss_cons ?s1 (pss_cons ?s2 (pss_one ?s3))
      case s1 => exact ps_set (i := 1) scLawIsName.nd rfl (Or.inl rfl) (pe_bm PySem.F.plainAttrs_str PySem.F.slot_str_split PySem.F.type_str_split mt_split pe_str (pa_k pe_str pa_nil))
      case s2 =>
        refine' ps_if ?c (pss_one (ps_ret pe_bl)) pss_nil
        case c => exact (pw_or (pt_not (pt_val (pe_callB call_isinst (by rfl) T.isi (by decide +kernel) (pa_n (pv 0) (pa_n (pe_bltn (v := .ty "str") (by rfl) T.str (by decide +kernel) rfl) pa_nil)))))
          (pw_or (pt_cmpR op_in_seq (pv 0) (pv 1) (by with_unfolding_all rfl))
          (pw_or (pt_cmpR op_lt (pe_callB call_len_str (by rfl) T.len PySem.boot_len (pa_n (pv 0) pa_nil)) pe_int (nomark _))
          (pw_or1 (pt_cmpR op_gt (pe_callB call_len_str (by rfl) T.len PySem.boot_len (pa_n (pv 0) pa_nil)) pe_int (nomark _)))))).pt
      case s3 => exact ps_ret (pe_cmpR (op_eq_list hu0) (pe_comp (N' := ["_law_sign"]) (src := [none]) rfl (compScope_of (defScope sLawIsName) rfl ["_law_thing", "_law_words"] rfl (by decide +kernel)) (pi_str (pv 0))
          (fun cl C ex s0 H0 => ⟨pg_name (i := 0) (nd1 _) rfl (Or.inl rfl), pts_one (pt_cmpR op_notIn_str (pv 0) pe_str (by with_unfolding_all rfl)), pv 0⟩)) (pe_lst pa_nil) (nomark _))
    case fin =>
      refine ⟨rfl, wordsText, " ", rfl, rfl, by decide +kernel, by decide +kernel, by decide +kernel, by decide +kernel, by decide +kernel, fun p hp => ?_⟩
      rw [split_words]
      have s1 := same_upd (o := .lst wordsV) hp
      have L1 : upd H p (.lst wordsV) p = some (.lst wordsV) := upd_same
      generalize upd H p (.lst wordsV) = H1 at s1 L1 ⊢
      have ht1 := IsTh.kp (Kp.of s1) ht
      cases g : isStrT t with
      | false =>
        refine ⟨_, rfl, _, _, _, _, rfl, th_ty ht1, KI.str ht1, _, rfl, ?_⟩
        rw [g]
        have e := no_name g
        exact iteT (iteT (e ▸ k H1 s1))
      | true =>
        obtain ⟨x, rfl, rfl, hx⟩ := str_is ht1 g
        have k' : ∀ H', Same H1 H' → Q (.bl (isNameB x)) H' := fun H' s => k H' (s1.trans s)
        have hl := len_small hx
        refine ⟨_, rfl, _, _, _, _, rfl, th_ty ht1, KI.str ht1, _, rfl, iteF ?_⟩
        refine ⟨_, rfl, _, rfl, p, wordsV, rfl, .inl (SqL.of L1), rfl, wordsFlat, _, rfl, ite2 (fun h3 => ?_) (fun h3 => ?_)⟩
        · have e : isNameB x = false := by
            unfold isNameB
            have h3' : inV (.str x) wordsV = true := h3
            rw [h3', Bool.not_true, Bool.false_and, Bool.and_false, Bool.and_false]
          exact iteT (e ▸ k' H1 (Same.refl H1))
        refine ⟨_, rfl, x, rfl, hl, _, _, rfl, rfl, _, rfl, ite2 (fun h1 => ?_) (fun h1 => ?_)⟩
        · have e : isNameB x = false := by
            unfold isNameB
            have : decide (1 ≤ x.length) = false := by
              rw [decide_eq_true_eq] at h1
              rw [decide_eq_false_iff_not]
              omega
            rw [this, Bool.false_and]
          exact iteT (e ▸ k' H1 (Same.refl H1))
        refine ⟨_, rfl, x, rfl, hl, _, _, rfl, rfl, _, rfl, ite2 (fun h2 => ?_) (fun h2 => ?_)⟩
        · have e : isNameB x = false := by
            unfold isNameB
            have : decide (x.length ≤ 8) = false := by
              rw [decide_eq_true_eq] at h2
              rw [decide_eq_false_iff_not]
              omega
            rw [this, Bool.false_and, Bool.and_false]
          exact e ▸ k' H1 (Same.refl H1)
        refine ⟨_, rfl, x, rfl, comp_str (x := x) (fun i ys σc H' => ∃ o, σc = [o] ∧ ys = ((x.cps.toList.take i).filter fun c => !az c).map (fun c => V.str ⟨#[c]⟩) ∧ H' = H1) ⟨none, rfl, rfl, rfl⟩ ?_ ?_⟩
        · rintro i c ys σc H' hc hi ⟨o, rfl, rfl, rfl⟩
          have hc' : x.cps.toList[i]? = some c := by simpa using hc
          refine ⟨?_, ?_⟩
          · rw [List.length_map]
            have h4 := List.length_filter_le (fun c => !az c) (x.cps.toList.take i)
            rw [List.length_take] at h4
            have h2 : x.cps.toList.length = x.length := by simp [Str.length]
            have h3 : x.cps.size = x.length := rfl
            have : sizeLine = 16777216 := sizeLine_eq
            omega
          · refine ⟨_, rfl, _, _, rfl, rfl, _, rfl, ?_⟩
            have hf : (!(Builtin.Str.occurrences abcT ⟨#[c]⟩ 0 abcT.length 1).isEmpty) = az c := by rw [PySem.StrLaws.found_one, abc_az]
            rw [hf]
            refine ite2 (fun g1 => ⟨_, rfl, nx hi ⟨_, rfl, ?_, rfl⟩⟩) (fun g1 => nx hi ⟨_, rfl, ?_, rfl⟩)
            · rw [take_nextF _ _ hc', if_pos g1]
            · rw [take_nextF _ _ hc', if_neg g1, List.append_nil]
        · rintro ys σc H' ⟨o, rfl, rfl, rfl⟩ l hl'
          refine ⟨Nat.zero_le _, fun e he => ⟨l, e, _, [], rfl, rfl, SqL.of (same_upd he _ _ upd_same), SqL.of upd_same, ?_, rfl, ?_⟩⟩
          · rw [List.all_map]; exact List.all_eq_true.mpr fun _ _ => rfl
          · have e : isNameB x = eqVs (((x.cps.toList.take x.cps.size).filter fun c => !az c).map fun c => V.str ⟨#[c]⟩) [] := by
              unfold isNameB
              have h1' : decide (1 ≤ x.length) = true := by
                rw [decide_eq_true_eq] at h1 ⊢
                omega
              have h2' : decide (x.length ≤ 8) = true := by
                rw [decide_eq_true_eq] at h2 ⊢
                omega
              have h3' : inV (.str x) wordsV = false := by
                cases q : inV (.str x) wordsV with
                | false => rfl
                | true => exact absurd q h3
              rw [h1', h2', h3', List.take_of_length_le (by simp)]
              show x.cps.toList.all az = _
              generalize x.cps.toList = l
              induction l with
              | nil => rfl
              | cons c r ih =>
                cases hq : az c with
                | true => rw [List.all_cons, hq, Bool.true_and, List.filter_cons, if_neg (by rw [hq]; decide)]; exact ih
                | false => rw [List.all_cons, hq, Bool.false_and, List.filter_cons, if_pos (by rw [hq]; rfl)]; rfl
            rw [← e]
            exact k' _ ((same_upd hl').trans (same_upd he))
end
end K08

set_option Elab.async false
set_option linter.all false
set_option maxRecDepth 100000
set_option maxHeartbeats 4000000
namespace K08
open PySem L2
abbrev sLawSecond : Stmt := top 35
def wordOf : Wd → Str
  | .num => "num" | .name => "name" | .op => "op" | .pick => "pick" | .lett => "let" | .sett => "set" | .say => "say" | .take => "take" | .dow => "do" | .again => "again" | .call => "call" | .own => "own" | .hole => "hole"
theorem kind_word {x : Str} {k : Wd} (h : kindOf x = some k) : x = wordOf k := by
  unfold kindOf at h
  by_cases h0 : x = "num"
  · rw [if_pos h0] at h; cases h; exact h0
  rw [if_neg h0] at h
  by_cases h1 : x = "name"
  · rw [if_pos h1] at h; cases h; exact h1
  rw [if_neg h1] at h
  by_cases h2 : x = "op"
  · rw [if_pos h2] at h; cases h; exact h2
  rw [if_neg h2] at h
  by_cases h3 : x = "pick"
  · rw [if_pos h3] at h; cases h; exact h3
  rw [if_neg h3] at h
  by_cases h4 : x = "let"
  · rw [if_pos h4] at h; cases h; exact h4
  rw [if_neg h4] at h
  by_cases h5 : x = "set"
  · rw [if_pos h5] at h; cases h; exact h5
  rw [if_neg h5] at h
  by_cases h6 : x = "say"
  · rw [if_pos h6] at h; cases h; exact h6
  rw [if_neg h6] at h
  by_cases h7 : x = "take"
  · rw [if_pos h7] at h; cases h; exact h7
  rw [if_neg h7] at h
  by_cases h8 : x = "do"
  · rw [if_pos h8] at h; cases h; exact h8
  rw [if_neg h8] at h
  by_cases h9 : x = "again"
  · rw [if_pos h9] at h; cases h; exact h9
  rw [if_neg h9] at h
  by_cases h10 : x = "call"
  · rw [if_pos h10] at h; cases h; exact h10
  rw [if_neg h10] at h
  by_cases h11 : x = "own"
  · rw [if_pos h11] at h; cases h; exact h11
  rw [if_neg h11] at h
  by_cases h12 : x = "hole"
  · rw [if_pos h12] at h; cases h; exact h12
  rw [if_neg h12] at h
  cases h
abbrev signText : Str := "+-*/<="
theorem sign_cps : signText.cps.toList = [43, 45, 42, 47, 60, 61] := by decide +kernel
theorem sign_in (c : Nat) : inV (.str ⟨#[c]⟩) (signsL.map V.str) = decide (c ∈ signText.cps.toList) := by
  rw [sign_cps, Bool.eq_iff_iff, decide_eq_true_iff]
  have h : ∀ (s : Str) (d : Nat), s.cps = #[d] → ((s == (⟨#[c]⟩ : Str)) = true ↔ d = c) := fun s d e => by
    rw [beq_iff_eq]
    constructor
    · intro z
      rw [z] at e
      simpa using e.symm
    · intro z
      subst z
      cases s
      simp only at e
      rw [e]
  show (signsL.map V.str).any (fun y => eqV y (.str ⟨#[c]⟩)) = true ↔ _
  rw [List.any_map]
  show (signsL.any fun s => s == (⟨#[c]⟩ : Str)) = true ↔ _
  unfold signsL
  simp only [List.any_cons, List.any_nil, Bool.or_false, Bool.or_eq_true, h "+" 43 (by decide +kernel), h "-" 45 (by decide +kernel), h "*" 42 (by decide +kernel), h "/" 47 (by decide +kernel), h "<" 60 (by decide +kernel), h "=" 61 (by decide +kernel), List.mem_cons, List.not_mem_nil, or_false]
  omega
theorem sign_long {x : Str} (h : ¬ x.length = 1) : inV (.str x) (signsL.map V.str) = false := by
  cases q : inV (.str x) (signsL.map V.str) with
  | false => rfl
  | true =>
    exfalso
    have q' : (signsL.map V.str).any (fun y => eqV y (.str x)) = true := q
    rw [List.any_map, List.any_eq_true] at q'
    obtain ⟨s, hs, e⟩ := q'
    have e' : s = x := beq_iff_eq.mp e
    have hl : ∀ s ∈ signsL, s.length = 1 := by decide +kernel
    exact h (e' ▸ hl s hs)
theorem str_one {x : Str} (h : x.length = 1) : ∃ c, x = ⟨#[c]⟩ := by
  obtain ⟨a⟩ := x
  have h' : a.size = 1 := h
  refine ⟨a[0], ?_⟩
  congr 1
  apply Array.ext
  · simpa using h'
  · intro i h1 h2
    have : i = 0 := by simpa using h2
    subst this
    rfl
def spSecond : Sp := fun vs H Q _ => ∃ (x : Str) (kk : Wd) (v : V) (t : Th), vs = [.str x, v] ∧ kindOf x = some kk ∧ hasOwn kk = true ∧ IsTh H v t ∧ ∀ H', Same H H' → Q (.bl (secondB nameB signB kk t)) H'
def isOH : Wd → Bool
  | .own | .hole => true
  | _ => false
def ohV : List V := [.str "own", .str "hole"]
def bothV : List V := [.int 999999999, .int 5]
theorem in_oh (k : Wd) : inV (.str (wordOf k)) ohV = isOH k := by cases k <;> decide +kernel
theorem is_again (k : Wd) : decide (V.str (wordOf k) = V.str "again") = decide (k = .again) := by cases k <;> decide +kernel
section
variable {P : Program} {w : World} {K : PySem.W.Frag} {mg : Str → Option Value} {base : Heap}
theorem scLawSecond : FnScope ["_law_word", "_law_thing"] ["_law_word", "_law_thing"] (defScope sLawSecond) := ⟨rfl, rfl, rfl, by decide +kernel, rfl, by decide +kernel, by decide +kernel⟩
theorem ok_lawsecond {f fW fN : Addr} {fd dW dN : FuncData} (F : Fun K "_law_second" "_law_second" sLawSecond f fd) (T : TxtT mg) (KI : Kits K)
    (FW : Fun K "_law_whole" "_law_whole" sLawWhole fW dW) (bW : Binds K dW ["_law_thing", "_law_most"] []) (mW : mg "_law_whole" = some (.ref fW))
    (FN : Fun K "_law_is_name" "_law_is_name" sLawIsName fN dN) (bN : Binds K dN ["_law_thing"] []) (mN : mg "_law_is_name" = some (.ref fN)) : FnOk P w K mg base CX0 2 f fd ["_law_word", "_law_thing"] spSecond := by
  have GW : FnOk P w K mg base CX0 1 fW dW ["_law_thing", "_law_most"] spLawWhole := ok_lawwhole FW T KI
  have GN : FnOk P w K mg base CX0 1 fN dN ["_law_thing"] (spTest nameB) := ok_lawisname FN T KI
  refine F.ok scLawSecond (fun vs H Q E h => ?_) (fun cdv A outer s H vs Q E hr h => ?_)
  · obtain ⟨x, kk, v, t, rfl, _⟩ := h
    rfl
  · obtain ⟨x, kk, v, t, rfl, hk, ho, ht, k⟩ := h
    have ex := kind_word hk
    subst ex
    refine' ⟨?tt, ?body, ?fin⟩
    case body =>
      refine' pss_cons ?s1 (pss_cons ?s2 (pss_cons ?s3 (pss_one ?s4)))
      case s1 => exact ps_if (pt_cmpR op_in_seq (pv 0) (pe_consts (vs := ohV) (by decide +kernel)) (by with_unfolding_all rfl)) (pss_one (ps_ret (pe_call GW hr (by rfl) mW FW.kp bW .nil pass0 (pa_n (pv 1) (pa_k pe_non pa_nil))))) pss_nil
      case s2 => exact ps_if (pw_or (pt_cmpR op_eq (pv 0) pe_str (nomark _)) (pw_or1 (pt_cmpR op_eq (pv 0) pe_str (nomark _)))).pt (pss_one (ps_ret (pe_call GW hr (by rfl) mW FW.kp bW .nil pass0 (pa_n (pv 1)
        (pa_cons (pe_ix ix_list (pe_consts (vs := bothV) (by decide +kernel)) (pe_callTy call_int1 (by rfl) T.int (by decide +kernel) (pa_cons (pe_cmpR op_eq (pv 0) pe_str (nomark _)) pa_nil)) (fun _ _ => rfl)) pa_nil))))) pss_nil
      case s3 => exact ps_if (pt_cmpR op_eq (pv 0) pe_str (nomark _)) (pss_one (ps_ret (pe_and (pe_callB call_isinst (by rfl) T.isi (by decide +kernel) (pa_n (pv 1) (pa_n (pe_bltn (v := .ty "str") (by rfl) T.str (by decide +kernel) rfl) pa_nil)))
        (pe_and (pe_cmpR op_eq (pe_callB call_len_str (by rfl) T.len PySem.boot_len (pa_n (pv 1) pa_nil)) pe_int (nomark _)) (pe_one (pe_cmpR op_in_str (pv 1) pe_str (by with_unfolding_all rfl))))))) pss_nil
      case s4 => exact ps_ret (pe_call GN hr (by rfl) mN FN.kp bN .nil pass0 (pa_n (pv 1) pa_nil))
    case fin =>
      refine ⟨_, rfl, (by decide +kernel), fun p hp => ⟨p, ohV, rfl, .inl (SqL.of upd_same), rfl, by decide +kernel, _, rfl, ?_⟩⟩
      have s1 := same_upd (o := .lst ohV) hp
      generalize upd H p (.lst ohV) = H1 at s1 ⊢
      have ht1 := IsTh.kp (Kp.of s1) ht
      have k1 : ∀ H', Same H1 H' → Q (.bl (secondB nameB signB kk t)) H' := fun H' s => k H' (s1.trans s)
      show if inV (.str (wordOf kk)) ohV = true then _ else _
      rw [in_oh]
      cases kk with
      | own => exact iteT ⟨_, rfl, v, .non, t, none, rfl, ht1, rfl, k1⟩
      | hole => exact iteT ⟨_, rfl, v, .non, t, none, rfl, ht1, rfl, k1⟩
      | num =>
        refine iteF ⟨_, rfl, rfl, _, rfl, ite2 (fun _ => iteT ?_) (fun g => absurd (by decide +kernel) g)⟩
        refine ⟨_, rfl, (by decide +kernel), fun p2 hp2 => ⟨_, rfl, rfl, .inr ⟨_, rfl, p2, bothV, _, .int 999999999, rfl, rfl, SqL.of upd_same, (by decide +kernel), ?_⟩⟩⟩
        exact ⟨v, .int 999999999, t, some 999999999, rfl, IsTh.kp (Kp.of (same_upd hp2)) ht1, rfl, fun H2 s2 => k1 H2 ((same_upd hp2).trans s2)⟩
      | again =>
        refine iteF ⟨_, rfl, rfl, _, rfl, ite2 (fun g => absurd g (by decide +kernel)) (fun _ => ⟨_, rfl, rfl, _, rfl, ite2 (fun _ => ?_) (fun g => absurd (by decide +kernel) g)⟩)⟩
        refine ⟨_, rfl, (by decide +kernel), fun p2 hp2 => ⟨_, rfl, rfl, .inr ⟨_, rfl, p2, bothV, _, .int 5, rfl, rfl, SqL.of upd_same, (by decide +kernel), ?_⟩⟩⟩
        exact ⟨v, .int 5, t, some 5, rfl, IsTh.kp (Kp.of (same_upd hp2)) ht1, rfl, fun H2 s2 => k1 H2 ((same_upd hp2).trans s2)⟩
      | name =>
        refine iteF ⟨_, rfl, rfl, _, rfl, ite2 (fun g => absurd g (by decide +kernel)) (fun _ => ⟨_, rfl, rfl, _, rfl, ite2 (fun g => absurd g (by decide +kernel)) (fun _ => ⟨_, rfl, rfl, _, rfl, ?_⟩)⟩)⟩
        refine ite2 (fun g => absurd g (by decide +kernel)) (fun _ => ?_)
        exact ⟨_, rfl, v, t, rfl, ht1, k1⟩
      | sett =>
        refine iteF ⟨_, rfl, rfl, _, rfl, ite2 (fun g => absurd g (by decide +kernel)) (fun _ => ⟨_, rfl, rfl, _, rfl, ite2 (fun g => absurd g (by decide +kernel)) (fun _ => ⟨_, rfl, rfl, _, rfl, ?_⟩)⟩)⟩
        refine ite2 (fun g => absurd g (by decide +kernel)) (fun _ => ?_)
        exact ⟨_, rfl, v, t, rfl, ht1, k1⟩
      | call =>
        refine iteF ⟨_, rfl, rfl, _, rfl, ite2 (fun g => absurd g (by decide +kernel)) (fun _ => ⟨_, rfl, rfl, _, rfl, ite2 (fun g => absurd g (by decide +kernel)) (fun _ => ⟨_, rfl, rfl, _, rfl, ?_⟩)⟩)⟩
        refine ite2 (fun g => absurd g (by decide +kernel)) (fun _ => ?_)
        exact ⟨_, rfl, v, t, rfl, ht1, k1⟩
      | op =>
        refine iteF ⟨_, rfl, rfl, _, rfl, ite2 (fun g => absurd g (by decide +kernel)) (fun _ => ⟨_, rfl, rfl, _, rfl, ite2 (fun g => absurd g (by decide +kernel)) (fun _ => ⟨_, rfl, rfl, _, rfl, ?_⟩)⟩)⟩
        refine ite2 (fun _ => ?_) (fun g => absurd (by decide +kernel) g)
        cases g : isStrT t with
        | false =>
          refine ⟨_, rfl, _, _, _, _, rfl, th_ty ht1, KI.str ht1, _, rfl, ?_⟩
          rw [g]
          have e : secondB nameB signB .op t = false := no_sign g
          exact iteF (e ▸ k1 H1 (Same.refl H1))
        | true =>
          obtain ⟨x, rfl, rfl, hx⟩ := str_is ht1 g
          refine ⟨_, rfl, _, _, _, _, rfl, th_ty ht1, KI.str ht1, _, rfl, iteT ⟨_, rfl, x, rfl, len_small hx, rfl, _, rfl, ite2 (fun g1 => ?_) (fun g1 => ?_)⟩⟩
          · have g2 : x.length = 1 := by
              have q := of_decide_eq_true g1
              injection q with q'
              omega
            obtain ⟨c, rfl⟩ := str_one g2
            refine ⟨_, rfl, _, _, rfl, rfl, ?_⟩
            have e : secondB nameB signB .op (.at (.str ⟨#[c]⟩)) = (!(Builtin.Str.occurrences signText ⟨#[c]⟩ 0 signText.length 1).isEmpty) := by
              show inV (.str ⟨#[c]⟩) (signsL.map V.str) = _
              rw [PySem.StrLaws.found_one, sign_in]
            rw [← e]
            exact k1 H1 (Same.refl H1)
          · have g2 : ¬ x.length = 1 := fun z => g1 (decide_eq_true (by rw [z]; rfl))
            have e : secondB nameB signB .op (.at (.str x)) = false := sign_long g2
            exact e ▸ k1 H1 (Same.refl H1)
      | pick => cases ho
      | lett => cases ho
      | say => cases ho
      | take => cases ho
      | dow => cases ho
end
end K08

set_option Elab.async false
set_option linter.all false
set_option maxRecDepth 100000
set_option maxHeartbeats 4000000
namespace K08
open PySem L2
abbrev sFeed : Stmt := top 22
abbrev sDraw : Stmt := top 23
abbrev sLawValue : Stmt := top 24
abbrev sSpelled : Stmt := top 25
abbrev sLawName : Stmt := top 26
abbrev sLawParts : Stmt := top 27
abbrev sLawNodes : Stmt := top 28
abbrev sFar : Stmt := top 29
abbrev sForm : Stmt := top 30
abbrev sOdd : Stmt := top 31
abbrev sBent : Stmt := top 32
abbrev sLawIs : Stmt := top 36
abbrev sLaw : Stmt := top 37
/-! the feed: its dict and its list of cells -/
def feedKV (l : Addr) (n : Nat) (z : Int) : List (Key × V) := [(Sum.inr "cells", .ref l), (Sum.inr "at", .int n), (Sum.inr "left", .int z)]
structure Feed (H : Hp) (d l : Addr) (ns : List Int) (n : Nat) : Prop where
  dc : ∃ z, H d = some (.dK (feedKV l n z))
  ls : H l = some (.lst (ns.map V.int))
  sz : ns.length ≤ 63
/-- all but the feed's dict stays -/
def But (d : Addr) (H H' : Hp) : Prop := ∀ b o, H b = some o → b ≠ d → H' b = some o
theorem But.refl (d : Addr) (H : Hp) : But d H H := fun _ _ e _ => e
theorem But.trans {d : Addr} {H H1 H2 : Hp} (a : But d H H1) (b : But d H1 H2) : But d H H2 := fun c o e n => b c o (a c o e n) n
theorem But.of {d : Addr} {H H1 : Hp} (a : Same H H1) : But d H H1 := fun c o e _ => a c o e
theorem kv_cells (l : Addr) (n : Nat) (z : Int) : valV (feedKV l n z) (Sum.inr "cells") = some (.ref l) := by with_unfolding_all rfl
theorem kv_at (l : Addr) (n : Nat) (z : Int) : valV (feedKV l n z) (Sum.inr "at") = some (.int n) := by with_unfolding_all rfl
theorem kv_left (l : Addr) (n : Nat) (z : Int) : valV (feedKV l n z) (Sum.inr "left") = some (.int z) := by with_unfolding_all rfl
theorem put_at (l : Addr) (n : Nat) (z : Int) : putK (feedKV l n z) (Sum.inr "at") (.int ((n : Int) + 1)) = feedKV l (n + 1) z := by with_unfolding_all rfl
theorem put_left (l : Addr) (n : Nat) (z y : Int) : putK (feedKV l n z) (Sum.inr "left") (.int y) = feedKV l n y := by with_unfolding_all rfl

theorem get_cells {H : Hp} {d l : Addr} {n : Nat} {z : Int} (h : H d = some (.dK (feedKV l n z))) : DGet H d (.str "cells") (some (.ref l)) := by
  have := DGet.k (k := Sum.inr "cells") h; rw [kv_cells] at this; exact this
theorem get_at {H : Hp} {d l : Addr} {n : Nat} {z : Int} (h : H d = some (.dK (feedKV l n z))) : DGet H d (.str "at") (some (.int n)) := by
  have := DGet.k (k := Sum.inr "at") h; rw [kv_at] at this; exact this
theorem get_left {H : Hp} {d l : Addr} {n : Nat} {z : Int} (h : H d = some (.dK (feedKV l n z))) : DGet H d (.str "left") (some (.int z)) := by
  have := DGet.k (k := Sum.inr "left") h; rw [kv_left] at this; exact this
theorem set_at {H : Hp} {d l : Addr} {n : Nat} {z : Int} (h : H d = some (.dK (feedKV l n z))) : DPut H d (.str "at") (.int ((n : Int) + 1)) (upd H d (.dK (feedKV l (n + 1) z))) := by
  have := DPut.k (k := Sum.inr "at") (v := .int ((n : Int) + 1)) h (by show 3 < sizeLine; decide); rw [put_at] at this; exact this
theorem set_left {H : Hp} {d l : Addr} {n : Nat} {z y : Int} (h : H d = some (.dK (feedKV l n z))) : DPut H d (.str "left") (.int y) (upd H d (.dK (feedKV l n y))) := by
  have := DPut.k (k := Sum.inr "left") (v := .int y) h (by show 3 < sizeLine; decide); rw [put_left] at this; exact this
theorem Feed.ne {H : Hp} {d l : Addr} {ns : List Int} {n : Nat} (F : Feed H d l ns n) : l ≠ d := by
  obtain ⟨⟨z, h⟩, g, _⟩ := F
  exact ne_of g h (by intro q; cases q)
theorem Feed.but {H H' : Hp} {d l : Addr} {ns : List Int} {n m : Nat} {z : Int} (F : Feed H d l ns n) (b : But d H H') (h : H' d = some (.dK (feedKV l m z))) : Feed H' d l ns m := ⟨⟨z, h⟩, b l _ F.ls F.ne, F.sz⟩
theorem But.upd {d : Addr} {H : Hp} {o : HO} : But d H (upd H d o) := fun c u e n => by rw [upd_ne n]; exact e

def spFeed (K : PySem.W.Frag) : Sp := fun vs H Q _ => ∃ (a : Addr) (ns : List Int), vs = [.ref a] ∧ SqL K H a (ns.map V.int) ∧ ns.length ≤ 63 ∧ ∀ d l H', Feed H' d l ns 0 → H d = none → Same H H' → Q (.ref d) H'
def spDraw : Sp := fun vs H Q _ => ∃ (d l : Addr) (ns : List Int) (n : Nat) (m : Int), vs = [.ref d, .int m] ∧ Feed H d l ns n ∧ n ≤ 1000000000000 ∧ 0 < m ∧ m < 18446744073709551616 ∧
  ∀ r n' H', 0 ≤ r → r < m → n' ≤ n + 1 → Feed H' d l ns n' → But d H H' → Q (.int r) H'
theorem cut63 {ns : List Int} (h : ns.length ≤ 63) : cutV (ns.map V.int) none (some 63) = ns.map V.int := by
  have e1 : HT.sIx (ns.map V.int).length 0 none = 0 := rfl
  have e2 : HT.sIx (ns.map V.int).length (ns.map V.int).length (some 63) = min 63 (ns.map V.int).length := rfl
  unfold cutV
  rw [e1, e2, List.drop_zero, List.take_of_length_le]
  rw [List.length_map]; omega
theorem lo29 (x : Int) : -(2 ^ 64) < x % 2147483629 := by omega
theorem hi29 (x : Int) : x % 2147483629 < 2 ^ 64 := by omega
theorem flat_ints (ns : List Int) : (ns.map V.int).all flatV = true := by
  rw [List.all_map]; exact List.all_eq_true.mpr fun _ _ => rfl
theorem Feed.same {H H' : Hp} {d l : Addr} {ns : List Int} {n : Nat} (F : Feed H d l ns n) (s : Same H H') : Feed H' d l ns n := let ⟨⟨z, h⟩, g, q⟩ := F; ⟨⟨z, s _ _ h⟩, s _ _ g, q⟩
theorem small_len {xs : List V} (h : xs.length ≤ 1000) : xs.length ≤ sizeLine := Nat.le_trans h (by decide)
structure Txt0 (mg : Str → Option Value) : Prop where
  len : mg "len" = none
  list : mg "list" = none
  range : mg "range" = none
section
variable {P : Program} {w : World} {K : PySem.W.Frag} {mg : Str → Option Value} {base : Heap}
theorem scFeed : FnScope ["_law_script"] ["_law_script"] (defScope sFeed) := ⟨rfl, rfl, rfl, by decide +kernel, rfl, by decide +kernel, by decide +kernel⟩
theorem ok_feed {f : Addr} {fd : FuncData} (F : Fun K "_law_feed" "_law_feed" sFeed f fd) (T : Txt0 mg) : FnOk P w K mg base CX0 1 f fd ["_law_script"] (spFeed K) := by
  refine F.ok scFeed (fun vs H Q E h => ?_) (fun cdv A outer s H vs Q E hr h => ?_)
  · obtain ⟨a, ns, rfl, _⟩ := h
    rfl
  · obtain ⟨a, ns, rfl, hS, hl, k⟩ := h
    refine ⟨_, pss_one (ps_ret (pe_disp (pps_cons pe_str (pe_callTy call_list_of (by rfl) T.list (by rfl) (pa_cons (pe_slice sl_list (pv 0) po_none (po_some pe_int)) pa_nil)) (pps_cons pe_str pe_int (pps_cons pe_str pe_int pps_nil))) rfl rfl (by intro z; cases z) (by decide))), ?_⟩
    intro d hd
    refine ⟨_, rfl, _, rfl, a, _, rfl, (same_upd hd).seq hS, fun p hp => ?_⟩
    refine ⟨p, _, rfl, .inl (SqL.of upd_same), fun l hl' => ?_⟩
    have hdl : d ≠ l := ne_of_none (H := upd (upd H d (.dK [])) p (.lst (cutV (ns.map V.int) none (some 63)))) (by rw [upd_ne (ne_of_none upd_same hp)]; exact upd_same) hl'
    have hpd : p ≠ d := fun z => by rw [z, upd_same] at hp; cases hp
    refine ⟨by rw [upd_ne hdl, upd_ne hpd.symm]; exact upd_same, feedKV l 0 0, rfl, by show 3 ≤ 15; decide, ?_⟩
    have em : mergeK [] (feedKV l 0 0) = feedKV l 0 0 := by with_unfolding_all rfl
    rw [em]
    refine k d l _ ⟨⟨0, upd_same⟩, ?_, hl⟩ hd ?_
    · rw [upd_ne hdl.symm, upd_same, cut63 hl]
    · intro b o e
      have hb : (upd H d (.dK [])) b = some o := same_upd hd b o e
      have hb2 := same_upd (o := .lst (cutV (ns.map V.int) none (some 63))) hp b o hb
      rw [upd_ne (ne_of_none e hd)]
      exact same_upd hl' b o hb2
theorem scDraw : FnScope ["_law_feed_here", "_law_many", "_law_found", "_law_at", "_law_cell", "_law_number"] ["_law_feed_here", "_law_many"] (defScope sDraw) := ⟨rfl, rfl, rfl, by decide +kernel, rfl, by decide +kernel, by decide +kernel⟩
theorem ok_draw {f : Addr} {fd : FuncData} (F : Fun K "_law_draw" "_law_draw" sDraw f fd) (T : Txt0 mg) : FnOk P w K mg base CX0 1 f fd ["_law_feed_here", "_law_many"] spDraw := by
  refine F.ok scDraw (fun vs H Q E h => ?_) (fun cdv A outer s H vs Q E hr h => ?_)
  · obtain ⟨d, l, ns, n, m, rfl, _⟩ := h
    rfl
  · obtain ⟨d, l, ns, n, m, rfl, FD, hn, hm0, hm1, k⟩ := h
    have hu := hu_of hr
    have hu0 := hr.units0
    obtain ⟨⟨z, hd⟩, hls, hsz⟩ := id FD
    refine ⟨_, pss_cons (ps_if (pt_cmpR op_gt (pe_dget hu (pv 0) pe_str (fun _ _ => rfl)) pe_int (nomark _))
        (pss_cons (ps_set (i := 2) scDraw.nd rfl (Or.inl rfl) (pe_op op_mod (pe_dget hu (pv 0) pe_str (fun _ _ => rfl)) (pv 1))) <|
         pss_cons (ps_dput hu (pv 0) pe_str (pe_op op_fdivL (pe_dget hu (pv 0) pe_str (fun _ _ => rfl)) (pv 1)) rfl) <|
         pss_one (ps_ret (pv 2))) pss_nil) <|
      pss_cons (ps_set (i := 3) scDraw.nd rfl (Or.inl rfl) (pe_dget hu (pv 0) pe_str (fun _ _ => rfl))) <|
      pss_cons (ps_dput hu (pv 0) pe_str (pe_op op_add (pv 3) pe_int) rfl) <|
      pss_cons (ps_set (i := 4) scDraw.nd rfl (Or.inl rfl) (pe_op op_add (pe_op op_mul (pv 3) (pv 3)) pe_int)) <|
      pss_cut (ps_if (pt_cmpR (op_ne_list hu0) (pe_dget hu (pv 0) pe_str (fun _ _ => rfl)) (pe_lst pa_nil) (nomark _))
        (pss_one (ps_set (i := 4) scDraw.nd rfl (Or.inl rfl) (pe_ix ix_list (pe_dget hu (pv 0) pe_str (fun _ _ => rfl)) (pe_op op_mod (pv 3) (pe_callB call_len_seq (by rfl) T.len PySem.boot_len (pa_cons (pe_dget hu (pv 0) pe_str (fun _ _ => rfl)) pa_nil))) (fun _ _ => rfl)))) pss_nil) <|
      pss_cons (ps_if (pt_cmpR op_ge (pv 4) (pe_op op_pow pe_int pe_int) (nomark _))
        (pss_cons (ps_dput hu (pv 0) pe_str (pe_op op_fdivL (pv 4) (pv 1)) rfl) <| pss_one (ps_ret (pe_op op_mod (pv 4) (pv 1)))) pss_nil) <|
      pss_cons (ps_set (i := 5) scDraw.nd rfl (Or.inl rfl) (pe_op op_mod (pe_op op_mul (pe_op op_add (pe_op op_add (pe_op op_mod (pv 4) pe_int) (pe_op op_mul pe_int (pv 3))) pe_int) pe_int) pe_int)) <|
      pss_cons (ps_set (i := 5) scDraw.nd rfl (Or.inl rfl) (pe_op op_mod (pe_op op_add (pe_op op_add (pe_op op_mul (pv 5) (pv 5)) (pe_op op_mul pe_int (pv 3))) pe_int) pe_int)) <|
      pss_cons (ps_set (i := 5) scDraw.nd rfl (Or.inl rfl) (pe_op op_mod (pe_op op_add (pe_op op_mul (pv 5) pe_int) (pv 3)) pe_int)) <|
      pss_one (ps_ret (pe_op op_mod (pe_op op_fdivL (pe_op op_mod (pe_op op_mul (pv 5) (pv 5)) pe_int) pe_int) (pv 1))), ?_⟩
    refine ⟨_, rfl, d, .int z, rfl, get_left hd, _, _, rfl, rfl, _, rfl, ?_⟩
    refine ite2 (fun hz => ?_) (fun hz => ?_)
    · refine ⟨_, rfl, d, .int z, rfl, get_left hd, _, rfl, _, _, rfl, rfl, hm0, ?_⟩
      refine ⟨_, rfl, d, .int z, rfl, get_left hd, _, rfl, _, _, rfl, rfl, ⟨hm0, hm1⟩, _, rfl, d, _, rfl, set_left hd, _, rfl, ?_⟩
      exact k _ n _ (Int.emod_nonneg _ (by omega)) (Int.emod_lt_of_pos _ hm0) (Nat.le_succ _) (FD.but But.upd upd_same) But.upd
    · refine ⟨_, rfl, d, .int n, rfl, get_at hd, ?_⟩
      refine ⟨_, rfl, _, _, rfl, rfl, _, rfl, d, _, rfl, set_at hd, ?_⟩
      have hd1 : upd H d (.dK (feedKV l (n + 1) z)) d = some (.dK (feedKV l (n + 1) z)) := upd_same
      have F1 : Feed (upd H d (.dK (feedKV l (n + 1) z))) d l ns (n + 1) := FD.but But.upd upd_same
      have B1 : But d H (upd H d (.dK (feedKV l (n + 1) z))) := But.upd
      generalize upd H d (.dK (feedKV l (n + 1) z)) = H1 at hd1 F1 B1 ⊢
      have hls1 := F1.ls
      refine ⟨_, rfl, _, rfl, _, _, rfl, rfl, .inl ⟨by omega, by omega⟩, _, _, rfl, rfl, ?_⟩
      refine ⟨fun σ' H' => ∃ c o, σ' = [some (.ref d), some (.int m), o, some (.int n), some (.int c), none] ∧ Feed H' d l ns (n + 1) ∧ But d H H', ?_, ?_⟩
      · refine ⟨_, rfl, d, .ref l, rfl, get_cells hd1, Nat.zero_le _, fun e he => ⟨l, e, ns.map V.int, [], rfl, rfl, SqL.of (same_upd he _ _ hls1), SqL.of upd_same, flat_ints ns, rfl, _, rfl, ?_⟩⟩
        have F2 := F1.same (same_upd (o := .lst []) he)
        have B2 : But d H (upd H1 e (.lst [])) := B1.trans (But.of (same_upd he))
        obtain ⟨⟨z2, hd2⟩, hls2, _⟩ := id F2
        refine ite2 (fun hne => ?_) (fun hne => ?_)
        · have hpos : 0 < (ns.map V.int).length := by
            cases ns with
            | nil => exact absurd hne (by decide)
            | cons _ _ => exact Nat.succ_pos _
          obtain ⟨v, hv, hat⟩ := at_mod hpos (n : Int)
          obtain ⟨c, _, rfl⟩ := List.mem_map.mp hv
          refine ⟨_, rfl, d, .ref l, rfl, get_cells hd2, _, rfl, _, rfl, d, .ref l, rfl, get_cells hd2, l, ns.map V.int, rfl, .inl (SqL.of hls2), _, _, rfl, rfl, (by show (0 : Int) < ((ns.map V.int).length : Int); omega), l, ns.map V.int, _, .int c, rfl, rfl, SqL.of hls2, hat, ?_⟩
          exact ⟨c, none, rfl, F2, B2⟩
        · exact ⟨_, none, rfl, F2, B2⟩
      · rintro σ' H2 ⟨c, o, rfl, F2, B2⟩
        obtain ⟨⟨z2, hd2⟩, hls2, _⟩ := id F2
        refine ⟨_, rfl, _, _, rfl, rfl, ⟨by decide, by decide, by decide⟩, _, _, rfl, rfl, _, rfl, ?_⟩
        refine ite2 (fun hge => ?_) (fun hge => ?_)
        · refine ⟨_, rfl, _, rfl, _, _, rfl, rfl, ⟨hm0, hm1⟩, _, rfl, d, _, rfl, set_left hd2, _, rfl, _, rfl, _, _, rfl, rfl, hm0, ?_⟩
          exact k _ (n + 1) _ (Int.emod_nonneg _ (by omega)) (Int.emod_lt_of_pos _ hm0) (Nat.le_refl _) (F2.but But.upd upd_same) (B2.trans But.upd)
        · refine ⟨_, rfl, _, _, rfl, rfl, (by show (0 : Int) < 2147483647; decide), _, rfl, _, _, rfl, rfl, .inl ⟨by decide, by decide⟩, _, _, rfl, rfl, _, _, rfl, rfl, _, _, rfl, rfl, .inr ⟨by decide, by decide⟩, _, _, rfl, rfl, (by show (0 : Int) < 2147483629; decide), ?_⟩
          refine ⟨_, rfl, _, rfl, _, _, rfl, rfl, .inl ⟨lo29 _, hi29 _⟩, _, rfl, _, _, rfl, rfl, .inl ⟨by decide, by decide⟩, _, _, rfl, rfl, _, _, rfl, rfl, _, _, rfl, rfl, (by show (0 : Int) < 2147483647; decide), ?_⟩
          refine ⟨_, rfl, _, _, rfl, rfl, .inr ⟨by decide, by decide⟩, _, rfl, _, _, rfl, rfl, _, _, rfl, rfl, (by show (0 : Int) < 2147483629; decide), ?_⟩
          refine ⟨_, rfl, _, rfl, _, _, rfl, rfl, .inl ⟨lo29 _, hi29 _⟩, _, _, rfl, rfl, (by show (0 : Int) < 2147483587; decide), _, _, rfl, rfl, ⟨by decide, by decide⟩, _, rfl, _, _, rfl, rfl, hm0, ?_⟩
          exact k _ (n + 1) _ (Int.emod_nonneg _ (by omega)) (Int.emod_lt_of_pos _ hm0) (Nat.le_refl _) F2 B2
/-! a word spelled -/
/-- its length, and its first sign -/
def Low (t : Str) : Prop := ∀ c ∈ t.cps.toList, 97 ≤ c ∧ c ≤ 122
theorem low_nil : Low "" := by
  have e : ("" : Str).cps.toList = [] := by decide +kernel
  intro c hc
  rw [e] at hc
  cases hc
theorem low_app {x y : Str} (a : Low x) (b : Low y) : Low (x ++ y) := by
  intro c hc
  have e : (x ++ y).cps.toList = x.cps.toList ++ y.cps.toList := by
    show (x.cps ++ y.cps).toList = _
    rw [Array.toList_append]
  rw [e] at hc
  rcases List.mem_append.mp hc with z | z
  · exact a c z
  · exact b c z
theorem low_one {c : Nat} (h : 97 ≤ c ∧ c ≤ 122) : Low ⟨#[c]⟩ := by
  intro d hd
  have : d = c := by simpa using hd
  subst this
  exact h
def Spelled (t : Str) (x m : Int) : Prop := ((t.length : Int) = m ∧ Low t) ∧ (0 < m → t.cps.toList[0]? = some (97 + (x % 26).toNat))
def spSpelled : Sp := fun vs H Q _ => ∃ (x m : Int), vs = [.int x, .int m] ∧ 0 ≤ m ∧ m ≤ 10 ∧ ∀ t : Str, Spelled t x m → Q (.str t) H
abbrev abc : Str := "abcdefghijklmnopqrstuvwxyz"
theorem abc_at : ∀ k : Fin 26, abc.cps.toList[k.val]? = some (97 + k.val) := by decide +kernel
theorem abc_is (y : Int) : atI abc.cps.toList (y % 26) = some (97 + (y % 26).toNat) := by
  have h0 : 0 ≤ y % 26 := by omega
  have h1 : y % 26 < 26 := by omega
  have e : y % 26 = ((y % 26).toNat : Int) := by omega
  have h := atI_nat (abc_at ⟨(y % 26).toNat, by omega⟩)
  rw [← e] at h
  exact h
theorem scSpelled : FnScope ["_law_number", "_law_long", "_law_word", "_law_k"] ["_law_number", "_law_long"] (defScope sSpelled) := ⟨rfl, rfl, rfl, by decide +kernel, rfl, by decide +kernel, by decide +kernel⟩
theorem ok_spelled {f : Addr} {fd : FuncData} (F : Fun K "_law_spelled" "_law_spelled" sSpelled f fd) (T : Txt0 mg) : FnOk P w K mg base CX0 1 f fd ["_law_number", "_law_long"] spSpelled := by
  refine F.ok scSpelled (fun vs H Q E h => ?_) (fun cdv A outer s H vs Q E hr h => ?_)
  · obtain ⟨x, m, rfl, _⟩ := h
    rfl
  · obtain ⟨x, m, rfl, h0, h1, k⟩ := h
    refine ⟨_, pss_cons (ps_set (i := 2) scSpelled.nd rfl (Or.inl rfl) pe_str) <|
      pss_cons (ps_for PassesOwn.never rfl (pi_range1 rfl T.range (pa_cons (pv 1) pa_nil)) (pg_name (i := 3) scSpelled.nd rfl (Or.inl rfl))
        (pss_cons (ps_set (i := 2) scSpelled.nd rfl (Or.inl rfl) (pe_op op_add_str (pv 2) (pe_ix ix_str pe_str (pe_op op_mod (pv 0) pe_int) (fun _ _ => rfl)))) <|
         pss_one (ps_set (i := 0) scSpelled.nd rfl (Or.inl rfl) (pe_op op_fdivL (pv 0) pe_int)))) <|
      pss_one (ps_ret (pv 2)), ?_⟩
    refine ⟨_, rfl, m, rfl, by omega, by omega, for_range (n := m.toNat) (fun i σ H' => ∃ y t o, σ = [some (.int y), some (.int m), some (.str t), o] ∧ t.length = i ∧ Low t ∧ (i = 0 → y = x) ∧ (0 < i → t.cps.toList[0]? = some (97 + (x % 26).toNat)) ∧ H' = H) ⟨x, _, none, rfl, rfl, low_nil, fun _ => rfl, fun z => absurd z (Nat.lt_irrefl _), rfl⟩ ?_ ?_⟩
    · rintro i σ H' hi ⟨y, t, o, rfl, ht, hlow, hy, hf, rfl⟩
      have hat := abc_is y
      refine ⟨_, rfl, _, rfl, _, _, rfl, rfl, (by show (0 : Int) < 26; decide), abc, _, _, rfl, rfl, (by decide +kernel), hat, _, _, rfl, rfl, ?_, _, rfl, _, _, rfl, rfl, ⟨by decide, by decide⟩, ?_⟩
      · show t.length + 1 ≤ sizeLine
        have : sizeLine = 16777216 := sizeLine_eq
        omega
      · refine ⟨_, _, _, rfl, by rw [PySem.Str.length_append, ht]; rfl, low_app hlow (low_one (by omega)), fun z => absurd z (Nat.succ_ne_zero _), fun _ => ?_, rfl⟩
        show (t.cps ++ #[97 + (y % 26).toNat]).toList[0]? = _
        by_cases hz : i = 0
        · have h2 : t.cps.toList = [] := by
            apply List.eq_nil_of_length_eq_zero
            rw [Array.length_toList]
            show t.length = 0
            omega
          rw [Array.toList_append, h2, hy hz]
          rfl
        · have h2 := hf (by omega)
          rw [Array.toList_append, List.getElem?_append_left (by rw [Array.length_toList]; show 0 < t.length; omega)]
          exact h2
    · rintro σ H' ⟨y, t, o, rfl, ht, hlow, _, hf, rfl⟩
      exact ⟨_, rfl, k t ⟨⟨by omega, hlow⟩, fun z => hf (by omega)⟩⟩
end
end K08

set_option Elab.async false
set_option linter.all false
set_option maxRecDepth 100000
set_option maxHeartbeats 4000000
namespace K08
open PySem L2
instance (t : Str) : Decidable (Low t) := by unfold Low; exact inferInstance
theorem low_slice {x : Str} {lo hi : Option Int} (h : Low x) : Low (Txt.slice x lo hi) := by
  unfold Txt.slice
  split
  · exact h
  · intro c hc
    have hc' := hc
    simp only [List.mem_filterMap] at hc'
    obtain ⟨i, _, e⟩ := hc'
    refine h c ?_
    rw [Array.mem_toList_iff]
    exact Array.mem_of_getElem? e
def words8 : List Str := ["num", "name", "op", "pick", "let", "set", "say", "take"]
def words5 : List Str := ["do", "again", "call", "own", "hole"]
def words13 : List Str := words8 ++ words5
def short12 : List Str := ["a", "b", "c", "d", "x", "y", "z", "n", "v", "aa", "ab", "tmp"]
theorem words13_ok : ∀ t ∈ words13, (1 ≤ t.length ∧ t.length ≤ 5) ∧ Low t := by decide +kernel
theorem short12_ok : ∀ t ∈ short12, (1 ≤ t.length ∧ t.length ≤ 5) ∧ Low t := by decide +kernel
theorem inV_strs (t : Str) (ts : List Str) : inV (.str t) (ts.map V.str) = true ↔ t ∈ ts := by
  unfold inV
  rw [List.any_map, List.any_eq_true]
  constructor
  · rintro ⟨y, hy, e⟩
    have e' : (y == t) = true := e
    rw [← beq_iff_eq.mp e']
    exact hy
  · intro h
    exact ⟨t, h, beq_self_eq_true t⟩
theorem But.lst {d a : Addr} {H H' : Hp} {kvs : List (Key × V)} {xs : List V} (b : But d H H') (hd : H d = some (.dK kvs)) (h : H a = some (.lst xs)) : H' a = some (.lst xs) := b a _ h (ne_of h hd (by intro q; cases q))
theorem app_len (x y : Str) : (x ++ y).length = x.length + y.length := PySem.Str.length_append x y
theorem len1000 {x : Str} (h : x.length ≤ 1000) : x.length ≤ sizeLine := Nat.le_trans h (by decide)
/-- a name's text as the drawing knows it -/
abbrev Nm (t : Str) : Prop := (1 ≤ t.length ∧ t.length ≤ 8) ∧ Low t
def spLawName : Sp := fun vs H Q _ => ∃ (d l a : Addr) (ns : List Int) (n : Nat) (ts : List Str), vs = [.ref d, .ref a] ∧ Feed H d l ns n ∧ n ≤ 900000000000 ∧ H a = some (.lst (ts.map V.str)) ∧ ts.length ≤ 40 ∧ (∀ t ∈ ts, Nm t) ∧
  ∀ (t : Str) n' H', Nm t → t ∉ ts → t ∉ words13 → n' ≤ n + 8 → Feed H' d l ns n' → But d H H' → Q (.str t) H'
/-- the first sign of a text that has one -/
theorem first_of {t : Str} (h : 1 ≤ t.length) : ∃ c, atI t.cps.toList 0 = some c := by
  have hl : t.cps.toList.length = t.length := by simp [Str.length]
  obtain ⟨c, _, e⟩ := at_in (xs := t.cps.toList) (i := 0) (by decide) (by rw [hl]; omega)
  exact ⟨c, e⟩
theorem low_at {t : Str} {i : Int} {c : Nat} (h : Low t) (e : atI t.cps.toList i = some c) : 97 ≤ c ∧ c ≤ 122 := by
  obtain ⟨j, _, e2, _⟩ := atI_get e
  exact h c (List.mem_of_getElem? e2)
/-- the turns of the search: number and length of turn i, from x and m on -/
def mi (m : Int) (i : Nat) : Int := (m - 1 + i) % 8 + 1
def KeyAt (x m : Int) (u : Str) (j : Nat) : Prop := (u.length : Int) = mi m j ∧ u.cps.toList[0]? = some (97 + ((x + j) % 26).toNat)
instance (x m : Int) (u : Str) (j : Nat) : Decidable (KeyAt x m u j) := by unfold KeyAt; exact inferInstance
theorem key_apart {x m : Int} {u : Str} {i j : Nat} (hi : i ≤ 60) (hj : j < i) (a : KeyAt x m u i) (b : KeyAt x m u j) : False := by
  obtain ⟨a1, a2⟩ := a
  obtain ⟨b1, b2⟩ := b
  unfold mi at a1 b1
  rw [a2] at b2
  have b3 := Option.some.inj b2
  have h1 : 0 ≤ (x + i) % 26 := by omega
  have h2 : 0 ≤ (x + j) % 26 := by omega
  omega
/-- what is still to be met of the names that are taken -/
structure Left (x m : Int) (ex R : List Str) (i : Nat) : Prop where
  few : R.length + i ≤ 54
  all : ∀ u ∈ ex, u ∈ R ∨ ∃ j, j < i ∧ KeyAt x m u j
theorem Left.zero {x m : Int} {ex : List Str} (h : ex.length ≤ 53) : Left x m ex ex 0 := ⟨by omega, fun u hu => .inl hu⟩
theorem Left.one {x m : Int} {ex R : List Str} (h : ex.length ≤ 53) : Left x m ex ex 1 := ⟨by omega, fun u hu => .inl hu⟩
theorem Left.next {x m : Int} {ex R : List Str} {i : Nat} {t : Str} (h : Left x m ex R i) (ht : t ∈ ex) (k : KeyAt x m t i) : Left x m ex (R.filter fun u => !decide (KeyAt x m u i)) (i + 1) := by
  have hR : t ∈ R := by
    rcases h.all t ht with z | ⟨j, hj, kj⟩
    · exact z
    · exact (key_apart (by have := h.few; omega) hj k kj).elim
  have hlt : (R.filter fun u => !decide (KeyAt x m u i)).length < R.length := by
    rw [List.length_filter_lt_length_iff_exists]
    exact ⟨t, hR, by simp [k]⟩
  refine ⟨by have := h.few; omega, fun u hu => ?_⟩
  rcases h.all u hu with z | ⟨j, hj, kj⟩
  · by_cases q : KeyAt x m u i
    · exact .inr ⟨i, Nat.lt_succ_self _, q⟩
    · exact .inl (List.mem_filter.mpr ⟨z, by simp [q]⟩)
  · exact .inr ⟨j, by omega, kj⟩
theorem ps_set9 {X : Cx} {i : Nat} {x : Str} {e : Expr} {te : TE} {pos pos' : Pos} (hN : X.N.Nodup) (hi : X.N[i]? = some x) (hx : Loc X.env.scope x) (he : PE X e te) (hs : swapsWith e (some (.Name x pos')) pos.line X.env = pure false) (hf : X.fn x = true ∨ X.env.scope.names.lookup x = some .local) :
    PS X (.Assign [.Name x pos'] e pos) (tAsg te (gName i)) := ps_set hN hi hx he hs hf
section
variable {P : Program} {w : World} {K : PySem.W.Frag} {mg : Str → Option Value} {base : Heap}
/-- the law's own helpers as they stand behind the top -/
structure Helpers (K : PySem.W.Frag) (mg : Str → Option Value) (fD fS : Addr) (dD dS : FuncData) : Prop where
  T : Txt0 mg
  D : Fun K "_law_draw" "_law_draw" sDraw fD dD
  bD : Binds K dD ["_law_feed_here", "_law_many"] []
  mD : mg "_law_draw" = some (.ref fD)
  S : Fun K "_law_spelled" "_law_spelled" sSpelled fS dS
  bS : Binds K dS ["_law_number", "_law_long"] []
  mS : mg "_law_spelled" = some (.ref fS)
theorem scLawName : FnScope ["_law_feed_here", "_law_taken", "_law_words", "_law_way", "_law_long", "_law_number", "_law_name_here", "_law_word", "_law_at"] ["_law_feed_here", "_law_taken"] (defScope sLawName) := ⟨rfl, rfl, rfl, by decide +kernel, rfl, by decide +kernel, by decide +kernel⟩
/-- between two statements -/
def Mid (d l a wd : Addr) (ns : List Int) (n k : Nat) (ts : List Str) (H : Hp) (way m x : Int) : St → Hp → Prop := fun σ' H' => ∃ (t : Str) (n' : Nat) (o7 o8 : Option V),
  σ' = [some (.ref d), some (.ref a), some (.ref wd), some (.int way), some (.int m), some (.int x), some (.str t), o7, o8] ∧ Nm t ∧ n' ≤ n + k ∧ Feed H' d l ns n' ∧ H' a = some (.lst (ts.map V.str)) ∧ H' wd = some (.lst (words13.map V.str)) ∧ But d H H'
theorem ok_lawname {f fD fS : Addr} {fd dD dS : FuncData} (F : Fun K "_law_name" "_law_name" sLawName f fd) (U : Helpers K mg fD fS dD dS) : FnOk P w K mg base CX0 2 f fd ["_law_feed_here", "_law_taken"] spLawName := by
  have GD : FnOk P w K mg base CX0 1 fD dD ["_law_feed_here", "_law_many"] spDraw := ok_draw U.D U.T
  have GS : FnOk P w K mg base CX0 1 fS dS ["_law_number", "_law_long"] spSpelled := ok_spelled U.S U.T
  refine F.ok scLawName (fun vs H Q E h => ?_) (fun cdv A outer s H vs Q E hr h => ?_)
  · obtain ⟨d, l, a, ns, n, ts, rfl, _⟩ := h
    rfl
  · obtain ⟨d, l, a, ns, n, ts, rfl, F0, hn, A0, hts, hall, k⟩ := h
    have hu0 := hr.units0
    have hsz : sizeLine = 16777216 := sizeLine_eq
    have hr1 : Room 1 _ := hr.mono (by decide)
    refine' ⟨?tt, ?body, ?fin⟩
    case body =>
      refine' pss_cons ?s1 (pss_cons ?s2 (pss_cons ?s3 (pss_cons ?s4 (pss_cons ?s5 (pss_cons ?s6 (pss_cut ?s7 (pss_cut ?s8 (pss_cut ?s9 (pss_cut ?s10 (pss_cons ?s11 (pss_one ?s12)))))))))))
      case s1 => exact ps_set (i := 2) scLawName.nd rfl (Or.inl rfl) (pe_consts (vs := words8.map V.str) (by decide +kernel))
      case s2 => exact ps_set (i := 2) scLawName.nd rfl (Or.inl rfl) (pe_op op_cat (pv 2) (pe_consts (vs := words5.map V.str) (by decide +kernel)))
      case s3 => exact ps_set (i := 3) scLawName.nd rfl (Or.inl rfl) (pe_call GD hr1 (by rfl) U.mD U.D.kp U.bD .nil pass0 (pa_n (pv 0) (pa_k pe_int pa_nil)))
      case s4 => exact ps_set (i := 4) scLawName.nd rfl (Or.inl rfl) (pe_op op_add pe_int (pe_call GD hr1 (by rfl) U.mD U.D.kp U.bD .nil pass0 (pa_n (pv 0) (pa_k pe_int pa_nil))))
      case s5 => exact ps_set (i := 5) scLawName.nd rfl (Or.inl rfl) (pe_op op_add (pe_op op_mul (pe_call GD hr1 (by rfl) U.mD U.D.kp U.bD .nil pass0 (pa_n (pv 0) (pa_k pe_int pa_nil))) pe_int) (pe_call GD hr1 (by rfl) U.mD U.D.kp U.bD .nil pass0 (pa_n (pv 0) (pa_k pe_int pa_nil))))
      case s6 => exact ps_set (i := 6) scLawName.nd rfl (Or.inl rfl) (pe_call GS hr1 (by rfl) U.mS U.S.kp U.bS .nil pass0 (pa_n (pv 5) (pa_n (pv 4) pa_nil)))
      case s7 =>
        refine' ps_if (pt_cmpR op_eq (pv 3) pe_int (nomark _)) (pss_one ?b) pss_nil
        case b =>
          refine' ps_set (i := 6) scLawName.nd rfl (Or.inl rfl) (pe_op op_add_str ?l ?r)
          case l => exact pe_ix ix_list (pv 2) (pe_call GD hr1 (by rfl) U.mD U.D.kp U.bD .nil pass0 (pa_n (pv 0) (pa_k pe_int pa_nil))) (fun _ _ => rfl)
          case r => exact pe_ix ix_str (pv 6) pe_int (fun _ _ => rfl)
      case s8 =>
        refine' ps_if (pt_cmpR op_eq (pv 3) pe_int (nomark _)) (pss_one ?b) pss_nil
        case b =>
          refine' ps_set9 (i := 6) ?ha ?hb ?hc ?hd ?he ?hf
          case ha => exact scLawName.nd
          case hb => exact rfl
          case hc => exact (Or.inl rfl)
          case he => exact rfl
          case hf => exact (.inr rfl)
          case hd =>
            refine' @pe_ix ((cxOf CX0 P w K mg base ["_law_feed_here", "_law_taken", "_law_words", "_law_way", "_law_long", "_law_number", "_law_name_here", "_law_word", "_law_at"] "_law_name" (defScope sLawName) f cdv A outer s H E).nox) _ _ _ _ _ _ ix_list ?hl (pe_call GD hr1 (by rfl) U.mD U.D.kp U.bD .nil pass0 (pa_n (pv 0) (pa_k pe_int pa_nil))) ?hp
            case hl =>
              refine' @pe_consts ((cxOf CX0 P w K mg base ["_law_feed_here", "_law_taken", "_law_words", "_law_way", "_law_long", "_law_number", "_law_name_here", "_law_word", "_law_at"] "_law_name" (defScope sLawName) f cdv A outer s H E).nox) _ (short12.map V.str) ?q
              case q => decide +kernel
            case hp => exact (fun _ _ => rfl)
      case s9 =>
        refine' ps_if ?c (pss_one ?b) pss_nil
        case c => exact (pw_and (pt_cmpR op_eq (pv 3) pe_int (nomark _)) (pw_and1 (pt_cmpR (op_ne_list hu0) (pv 1) (pe_lst pa_nil) (nomark _)))).pt
        case b =>
          refine' ps_set (i := 6) scLawName.nd rfl (Or.inl rfl) (pe_slice sl_str (pe_op op_add_str (pe_ix ix_list ?x ?y (fun _ _ => rfl)) ?z) po_none (po_some ?u))
          case x => exact pv 1
          case y => exact (pe_call GD hr1 (by rfl) U.mD U.D.kp U.bD .nil pass0 (pa_n (pv 0) (pa_c (pe_callB call_len_seq (by rfl) U.T.len PySem.boot_len (pa_n (pv 1) pa_nil)) pa_nil)))
          case z => exact pv 6
          case u => exact pe_op op_add pe_int (pe_op op_mod (pv 5) pe_int)
      case s10 =>
        refine' ps_if ?c (pss_cons ?b1 (pss_cons ?b2 (pss_one ?b3))) pss_nil
        case c => exact (pw_and (pt_cmpR op_eq (pv 3) pe_int (nomark _)) (pw_and1 (pt_cmpR (op_ne_list hu0) (pv 1) (pe_lst pa_nil) (nomark _)))).pt
        case b1 =>
          refine' ps_set (i := 7) scLawName.nd rfl (Or.inl rfl) (pe_ix ix_list ?x ?y (fun _ _ => rfl))
          case x => exact pv 1
          case y => exact (pe_call GD hr1 (by rfl) U.mD U.D.kp U.bD .nil pass0 (pa_n (pv 0) (pa_c (pe_callB call_len_seq (by rfl) U.T.len PySem.boot_len (pa_n (pv 1) pa_nil)) pa_nil)))
        case b2 => exact ps_set (i := 8) scLawName.nd rfl (Or.inl rfl) (pe_op op_mod (pv 5) (pe_callB call_len_str (by rfl) U.T.len PySem.boot_len (pa_n (pv 7) pa_nil)))
        case b3 =>
          refine' ps_set (i := 6) scLawName.nd rfl (Or.inl rfl) (pe_op op_add_str (pe_op op_add_str ?x ?y) ?z)
          case x => exact pe_slice sl_str (pv 7) po_none (po_some (pv 8))
          case y => exact pe_ix ix_str (pv 6) pe_int (fun _ _ => rfl)
          case z => exact pe_slice sl_str (pv 7) (po_some (pe_op op_add (pv 8) pe_int)) po_none
      case s11 =>
        refine' ps_while PassesOwn.never ?c (pss_cons ?b1 (pss_cons ?b2 (pss_one ?b3)))
        case c => exact (pw_or (pt_cmpR op_in_seq (pv 6) (pv 1) (by with_unfolding_all rfl)) (pw_or1 (pt_cmpR op_in_seq (pv 6) (pv 2) (by with_unfolding_all rfl)))).pt
        case b1 => exact ps_set (i := 5) scLawName.nd rfl (Or.inl rfl) (pe_op op_add (pv 5) pe_int)
        case b2 => exact ps_set (i := 4) scLawName.nd rfl (Or.inl rfl) (pe_op op_add (pe_op op_mod (pv 4) pe_int) pe_int)
        case b3 => exact ps_set (i := 6) scLawName.nd rfl (Or.inl rfl) (pe_call GS hr1 (by rfl) U.mS U.S.kp U.bS .nil pass0 (pa_n (pv 5) (pa_n (pv 4) pa_nil)))
      case s12 => exact ps_ret (pv 6)
    case fin =>
      -- words
      refine ⟨small_len (by decide +kernel), fun p hp => ?_⟩
      refine ⟨_, rfl, small_len (by decide +kernel), fun q hq => ⟨p, q, words8.map V.str, words5.map V.str, rfl, rfl, same_upd hq _ _ upd_same, upd_same, (by decide +kernel), fun wd hwd => ?_⟩⟩
      have s1 := ((same_upd (o := .lst (words8.map V.str)) hp).trans (same_upd (o := .lst (words5.map V.str)) hq)).trans (same_upd (o := .lst (words8.map V.str ++ words5.map V.str)) hwd)
      have W1 : upd (upd (upd H p (.lst (words8.map V.str))) q (.lst (words5.map V.str))) wd (.lst (words8.map V.str ++ words5.map V.str)) wd = some (.lst (words13.map V.str)) := by
        rw [upd_same, words13, List.map_append]
      have F1 := F0.same s1
      have A1 := s1 _ _ A0
      have B1 : But d H _ := But.of s1
      generalize upd (upd (upd H p (.lst (words8.map V.str))) q (.lst (words5.map V.str))) wd (.lst (words8.map V.str ++ words5.map V.str)) = H1 at W1 F1 A1 B1 ⊢
      -- way, long, number
      refine ⟨_, rfl, d, l, ns, n, _, rfl, F1, by omega, by decide, by decide, fun way n2 H2 _ _ hn2 F2 B2 => ?_⟩
      obtain ⟨z1, hd1⟩ := F1.dc
      have A2 := B2.lst hd1 A1
      have W2 := B2.lst hd1 W1
      have B2' := B1.trans B2
      refine ⟨_, rfl, d, l, ns, n2, _, rfl, F2, by omega, by decide, by decide, fun lg n3 H3 lg0 lg1 hn3 F3 B3 => ?_⟩
      obtain ⟨z2, hd2⟩ := F2.dc
      have A3 := B3.lst hd2 A2
      have W3 := B3.lst hd2 W2
      have B3' := B2'.trans B3
      refine ⟨_, _, rfl, rfl, ?_⟩
      refine ⟨_, rfl, d, l, ns, n3, _, rfl, F3, by omega, by decide, by decide, fun r4 n4 H4 r40 r41 hn4 F4 B4 => ?_⟩
      obtain ⟨z3, hd3⟩ := F3.dc
      have A4 := B4.lst hd3 A3
      have W4 := B4.lst hd3 W3
      have B4' := B3'.trans B4
      refine ⟨_, _, rfl, rfl, .inr ⟨by decide, by decide⟩, ?_⟩
      refine ⟨_, rfl, d, l, ns, n4, _, rfl, F4, by omega, by decide, by decide, fun r5 n5 H5 r50 r51 hn5 F5 B5 => ?_⟩
      obtain ⟨z4, hd4⟩ := F4.dc
      have A5 := B5.lst hd4 A4
      have W5 := B5.lst hd4 W4
      have B5' := B4'.trans B5
      refine ⟨_, _, rfl, rfl, ?_⟩
      have hx0 : 0 ≤ r4 * 456976 + r5 := by omega
      -- name = spelled(number, long)
      refine ⟨_, rfl, _, rfl, r4 * 456976 + r5, 1 + lg, rfl, by omega, by omega, fun t5 ht5 => ?_⟩
      obtain ⟨⟨hl5, hw5⟩, hf5⟩ := ht5
      have hm0 : 1 ≤ 1 + lg := by omega
      have hm1 : 1 + lg ≤ 8 := by omega
      -- if way == 0
      refine ⟨Mid d l a wd ns n 5 ts H way (1 + lg) (r4 * 456976 + r5), ?_, ?_⟩
      · refine ⟨_, rfl, rfl, _, rfl, ite2 (fun _ => ?_) (fun _ => ?_)⟩
        · refine ⟨_, rfl, _, rfl, d, l, ns, n5, _, rfl, F5, by omega, by decide, by decide, fun r6 n6 H6 r60 r61 hn6 F6 B6 => ?_⟩
          obtain ⟨z5, hd5⟩ := F5.dc
          have A6 := B6.lst hd5 A5
          have W6 := B6.lst hd5 W5
          obtain ⟨v6, hv6, hat6⟩ := at_in (xs := words13.map V.str) (i := r6) r60 (Int.lt_of_lt_of_le r61 (by decide +kernel))
          obtain ⟨t6, ht6, rfl⟩ := List.mem_map.mp hv6
          have h6 := words13_ok t6 ht6
          obtain ⟨c6, hc6⟩ := first_of (t := t5) (by omega)
          refine ⟨wd, words13.map V.str, r6, .str t6, rfl, rfl, SqL.of W6, hat6, ?_⟩
          refine ⟨_, rfl, t5, 0, c6, rfl, rfl, len1000 (by omega), hc6, ?_⟩
          refine ⟨t6, ⟨#[c6]⟩, rfl, rfl, (by show t6.length + 1 ≤ sizeLine; omega), ?_⟩
          exact ⟨_, n6, none, none, rfl, ⟨⟨by rw [app_len]; show 1 ≤ t6.length + 1; omega, by rw [app_len]; show t6.length + 1 ≤ 8; omega⟩, low_app h6.2 (low_one (low_at hw5 hc6))⟩, by omega, F6, A6, W6, B5'.trans B6⟩
        · exact ⟨t5, n5, none, none, rfl, ⟨⟨by omega, by omega⟩, hw5⟩, by omega, F5, A5, W5, B5'⟩
      generalize r4 * 456976 + r5 = x at hx0 ⊢
      generalize 1 + lg = m at hm0 hm1 ⊢
      rintro σ6 H6 ⟨t6, n6, o67, o68, rfl, ht6, hn6, F6, A6, W6, B6⟩
      obtain ⟨z6, hd6⟩ := F6.dc
      -- if way == 3
      refine ⟨Mid d l a wd ns n 6 ts H way m x, ?_, ?_⟩
      · refine ⟨_, rfl, rfl, _, rfl, ite2 (fun _ => ?_) (fun _ => ?_)⟩
        · refine ⟨small_len (by decide +kernel), fun e he => ?_⟩
          have se := same_upd (o := .lst (short12.map V.str)) he
          refine ⟨_, rfl, d, l, ns, n6, _, rfl, F6.same se, by omega, by decide, by decide, fun r7 n7 H7 r70 r71 hn7 F7 B7 => ?_⟩
          have E7 : H7 e = some (.lst (short12.map V.str)) := B7.lst (se _ _ hd6) upd_same
          have A7 := B7.lst (se _ _ hd6) (se _ _ A6)
          have W7 := B7.lst (se _ _ hd6) (se _ _ W6)
          obtain ⟨v7, hv7, hat7⟩ := at_in (xs := short12.map V.str) (i := r7) r70 (Int.lt_of_lt_of_le r71 (by decide +kernel))
          obtain ⟨t7, ht7, rfl⟩ := List.mem_map.mp hv7
          have h7 := short12_ok t7 ht7
          refine ⟨e, short12.map V.str, r7, .str t7, rfl, rfl, SqL.of E7, hat7, ?_⟩
          exact ⟨_, n7, o67, o68, rfl, ⟨⟨by omega, by omega⟩, h7.2⟩, by omega, F7, A7, W7, (B6.trans (But.of se)).trans B7⟩
        · exact ⟨t6, n6, o67, o68, rfl, ht6, by omega, F6, A6, W6, B6⟩
      rintro σ7 H7 ⟨t7, n7, o77, o78, rfl, ht7, hn7, F7, A7, W7, B7⟩
      obtain ⟨z7, hd7⟩ := F7.dc
      -- if way == 1 and taken != []
      refine ⟨Mid d l a wd ns n 7 ts H way m x, ?_, ?_⟩
      · refine ⟨_, rfl, rfl, _, rfl, ite2 (fun _ => ?_) (fun _ => iteF ⟨t7, n7, o77, o78, rfl, ht7, by omega, F7, A7, W7, B7⟩)⟩
        refine ⟨_, rfl, Nat.zero_le _, fun e he => ⟨a, e, ts.map V.str, [], rfl, rfl, SqL.of (same_upd he _ _ A7), SqL.of upd_same, strs_flat ts, rfl, _, rfl, ?_⟩⟩
        have se := same_upd (o := .lst []) he
        have F7' := F7.same se
        have A7' := se _ _ A7
        have W7' := se _ _ W7
        have B7' := B7.trans (But.of (d := d) se)
        obtain ⟨z7', hd7'⟩ := F7'.dc
        generalize upd H7 e (.lst []) = H7e at F7' A7' W7' B7' hd7' ⊢
        refine ite2 (fun hne => ?_) (fun _ => ⟨t7, n7, o77, o78, rfl, ht7, by omega, F7', A7', W7', B7'⟩)
        have hpos : 0 < (ts.map V.str).length := by
          cases ts with
          | nil => exact absurd hne (by decide)
          | cons _ _ => exact Nat.succ_pos _
        have hfew : (ts.map V.str).length ≤ 40 := by rw [List.length_map]; exact hts
        refine ⟨_, rfl, _, rfl, _, rfl, a, ts.map V.str, rfl, .inl (SqL.of A7'), d, l, ns, n7, _, rfl, F7', by omega, (by show (0 : Int) < ((ts.map V.str).length : Int); omega), (by show ((ts.map V.str).length : Int) < 18446744073709551616; omega), fun r8 n8 H8 r80 r81 hn8 F8 B8 => ?_⟩
        have A8 := B8.lst hd7' A7'
        have W8 := B8.lst hd7' W7'
        obtain ⟨v8, hv8, hat8⟩ := at_in (xs := ts.map V.str) (i := r8) r80 r81
        obtain ⟨t8, ht8, rfl⟩ := List.mem_map.mp hv8
        have h8 := hall t8 ht8
        refine ⟨a, ts.map V.str, r8, .str t8, rfl, rfl, SqL.of A8, hat8, ?_⟩
        refine ⟨_, rfl, t8, t7, rfl, rfl, (by omega), ?_⟩
        have hlen : (t8 ++ t7).length = t8.length + t7.length := app_len _ _
        refine ⟨_, rfl, _, _, rfl, rfl, (by show (0 : Int) < 8; decide), _, _, rfl, rfl, _, rfl, _, rfl, len1000 (by omega), ?_⟩
        have hj : 1 ≤ 1 + x % 8 := by omega
        have hj2 : 1 + x % 8 ≤ 8 := by omega
        have q1 := cut_pos (x := t8 ++ t7) (j := 1 + x % 8) (by omega) hj
        have q2 := cut_le (x := t8 ++ t7) (j := 1 + x % 8) (by omega)
        exact ⟨_, n8, o77, o78, rfl, ⟨⟨q1, by omega⟩, low_slice (low_app h8.2 ht7.2)⟩, by omega, F8, A8, W8, B7'.trans B8⟩
      rintro σ8 H8 ⟨t8, n8, o87, o88, rfl, ht8, hn8, F8, A8, W8, B8⟩
      obtain ⟨z8, hd8⟩ := F8.dc
      -- if way == 2 and taken != []
      refine ⟨Mid d l a wd ns n 8 ts H way m x, ?_, ?_⟩
      · refine ⟨_, rfl, rfl, _, rfl, ite2 (fun _ => ?_) (fun _ => iteF ⟨t8, n8, o87, o88, rfl, ht8, by omega, F8, A8, W8, B8⟩)⟩
        refine ⟨_, rfl, Nat.zero_le _, fun e he => ⟨a, e, ts.map V.str, [], rfl, rfl, SqL.of (same_upd he _ _ A8), SqL.of upd_same, strs_flat ts, rfl, _, rfl, ?_⟩⟩
        have se := same_upd (o := .lst []) he
        have F8' := F8.same se
        have A8' := se _ _ A8
        have W8' := se _ _ W8
        have B8' := B8.trans (But.of (d := d) se)
        obtain ⟨z8', hd8'⟩ := F8'.dc
        generalize upd H8 e (.lst []) = H8e at F8' A8' W8' B8' hd8' ⊢
        refine ite2 (fun hne => ?_) (fun _ => ⟨t8, n8, o87, o88, rfl, ht8, by omega, F8', A8', W8', B8'⟩)
        have hpos : 0 < (ts.map V.str).length := by
          cases ts with
          | nil => exact absurd hne (by decide)
          | cons _ _ => exact Nat.succ_pos _
        have hfew : (ts.map V.str).length ≤ 40 := by rw [List.length_map]; exact hts
        refine ⟨_, rfl, _, rfl, _, rfl, a, ts.map V.str, rfl, .inl (SqL.of A8'), d, l, ns, n8, _, rfl, F8', by omega, (by show (0 : Int) < ((ts.map V.str).length : Int); omega), (by show ((ts.map V.str).length : Int) < 18446744073709551616; omega), fun r9 n9 H9 r90 r91 hn9 F9 B9 => ?_⟩
        have A9 := B9.lst hd8' A8'
        have W9 := B9.lst hd8' W8'
        obtain ⟨v9, hv9, hat9⟩ := at_in (xs := ts.map V.str) (i := r9) r90 r91
        obtain ⟨t9, ht9, rfl⟩ := List.mem_map.mp hv9
        have h9 := hall t9 ht9
        refine ⟨a, ts.map V.str, r9, .str t9, rfl, rfl, SqL.of A9, hat9, ?_⟩
        refine ⟨_, rfl, _, rfl, t9, rfl, len1000 (by omega), _, _, rfl, rfl, (by show (0 : Int) < (t9.length : Int); omega), ?_⟩
        have at0 : 0 ≤ x % (t9.length : Int) := Int.emod_nonneg _ (by omega)
        have at1 : x % (t9.length : Int) < t9.length := Int.emod_lt_of_pos _ (by omega)
        obtain ⟨c9, hc9⟩ := first_of (t := t8) ht8.1.1
        have q1 := cut_le (x := t9) (j := x % (t9.length : Int)) at0
        have q2 := cut_from (x := t9) (i := x % (t9.length : Int) + 1) (by omega) (by omega)
        refine ⟨_, rfl, _, rfl, _, rfl, t9, rfl, len1000 (by omega), _, rfl, t8, 0, c9, rfl, rfl, len1000 (by omega), hc9, _, ⟨#[c9]⟩, rfl, rfl, (by show _ + 1 ≤ sizeLine; omega), ?_⟩
        have hlen : (Txt.slice t9 none (some (x % (t9.length : Int))) ++ (⟨#[c9]⟩ : Str)).length = (Txt.slice t9 none (some (x % (t9.length : Int)))).length + 1 := app_len _ _
        refine ⟨_, rfl, _, rfl, _, _, rfl, rfl, _, rfl, t9, rfl, len1000 (by omega), _, _, rfl, rfl, (by omega), ?_⟩
        exact ⟨_, n9, _, _, rfl, ⟨⟨by rw [app_len]; omega, by rw [app_len]; omega⟩, low_app (low_app (low_slice h9.2) (low_one (low_at ht8.2 hc9))) (low_slice h9.2)⟩, by omega, F9, A9, W9, B8'.trans B9⟩
      rintro σ9 H9 ⟨t9, n9, o97, o98, rfl, ht9, hn9, F9, A9, W9, B9⟩
      -- the search
      have hex : (ts ++ words13).length ≤ 53 := by
        rw [List.length_append]
        have : words13.length = 13 := by decide +kernel
        omega
      refine while_by (fun σ H' => ∃ (i : Nat) (R : List Str) (t : Str), σ = [some (.ref d), some (.ref a), some (.ref wd), some (.int way), some (.int (mi m i)), some (.int (x + i)), some (.str t), o97, o98] ∧ Nm t ∧ Left x m (ts ++ words13) R i ∧ (0 < i → KeyAt x m t i) ∧ H' = H9)
        (fun (σ : St) (_ : Hp) => match σ[5]? with | some (some (V.int z)) => (x + 100 - z).toNat | _ => 0) ⟨0, _, t9, ?_, ht9, Left.zero hex, fun z => absurd z (Nat.lt_irrefl _), rfl⟩ ?_ ?_
      · have e1 : mi m 0 = m := by unfold mi; omega
        have e2 : x + ((0 : Nat) : Int) = x := by omega
        rw [e1, e2]
      · rintro σ H' ⟨i, R, t, rfl, ht, hL, hK, rfl⟩
        have hi : i ≤ 54 := by have := hL.few; omega
        have e1 : mi m i % 8 + 1 = mi m (i + 1) := by unfold mi; omega
        have e2 : x + (i : Int) + 1 = x + ((i + 1 : Nat) : Int) := by omega
        have e3 : 1 ≤ mi m (i + 1) ∧ mi m (i + 1) ≤ 8 := by unfold mi; omega
        have body : t ∈ ts ++ words13 → ∀ t' : Str, Spelled t' (x + ((i + 1 : Nat) : Int)) (mi m (i + 1)) →
            ∃ R', Nm t' ∧ Left x m (ts ++ words13) R' (i + 1) ∧ (0 < i + 1 → KeyAt x m t' (i + 1)) := by
          intro hin t' ht'
          have hk : KeyAt x m t' (i + 1) := ⟨ht'.1.1, ht'.2 (by omega)⟩
          have hl := ht'.1.1
          by_cases hz : i = 0
          · subst hz
            exact ⟨_, ⟨⟨by omega, by omega⟩, ht'.1.2⟩, Left.one (R := R) hex, fun _ => hk⟩
          · exact ⟨_, ⟨⟨by omega, by omega⟩, ht'.1.2⟩, hL.next hin (hK (by omega)), fun _ => hk⟩
        refine ⟨_, rfl, _, rfl, a, ts.map V.str, rfl, .inl (SqL.of A9), rfl, strs_flat ts, _, rfl, ite2 (fun g => iteT ?_) (fun g => ?_)⟩
        · refine ⟨_, rfl, _, _, rfl, rfl, _, rfl, _, _, rfl, rfl, (by show (0 : Int) < 8; decide), _, _, rfl, rfl, _, rfl, _, rfl, _, _, rfl, (by rw [e1]; omega), (by rw [e1]; omega), fun t' ht' => ?_⟩
          rw [e1, e2] at ht'
          obtain ⟨R', q1, q2, q3⟩ := body (List.mem_append.mpr (.inl ((inV_strs t ts).mp g))) t' ht'
          refine ⟨⟨i + 1, R', t', ?_, q1, q2, q3, rfl⟩, ?_⟩
          · show [some (.ref d), some (.ref a), some (.ref wd), some (.int way), some (.int (mi m i % 8 + 1)), some (.int (x + i + 1)), some (.str t'), o97, o98] = _
            rw [e1, e2]
          · show (x + 100 - (x + i + 1)).toNat < (x + 100 - (x + i)).toNat
            omega
        · refine ⟨_, rfl, _, rfl, wd, words13.map V.str, rfl, .inl (SqL.of W9), rfl, strs_flat words13, _, rfl, ite2 (fun g2 => ?_) (fun g2 => ?_)⟩
          · refine ⟨_, rfl, _, _, rfl, rfl, _, rfl, _, _, rfl, rfl, (by show (0 : Int) < 8; decide), _, _, rfl, rfl, _, rfl, _, rfl, _, _, rfl, (by rw [e1]; omega), (by rw [e1]; omega), fun t' ht' => ?_⟩
            rw [e1, e2] at ht'
            obtain ⟨R', q1, q2, q3⟩ := body (List.mem_append.mpr (.inr ((inV_strs t words13).mp g2))) t' ht'
            refine ⟨⟨i + 1, R', t', ?_, q1, q2, q3, rfl⟩, ?_⟩
            · show [some (.ref d), some (.ref a), some (.ref wd), some (.int way), some (.int (mi m i % 8 + 1)), some (.int (x + i + 1)), some (.str t'), o97, o98] = _
              rw [e1, e2]
            · show (x + 100 - (x + i + 1)).toNat < (x + 100 - (x + i)).toNat
              omega
          · exact ⟨_, rfl, k t n9 _ ht (fun z => g ((inV_strs t ts).mpr z)) (fun z => g2 ((inV_strs t words13).mpr z)) hn9 F9 B9⟩
      · rintro σ H' Q1 Q2 hq ⟨v, f1, w1, f2, p, xs, f3, f4, f5, f6, c, f7, q⟩
        refine ⟨v, f1, w1, f2, p, xs, f3, f4, f5, f6, c, f7, ?_⟩
        cases c with
        | true => exact iteT (hq _ _ (by simpa using q))
        | false =>
          refine iteF ?_
          simp only [Bool.false_eq_true, if_false] at q
          obtain ⟨v, f1, w1, f2, p, xs, f3, f4, f5, f6, c, f7, q⟩ := q
          exact ⟨v, f1, w1, f2, p, xs, f3, f4, f5, f6, c, f7, hq _ _ q⟩
end
end K08

set_option Elab.async false
set_option linter.all false
set_option maxRecDepth 100000
set_option maxHeartbeats 4000000
namespace K08
open PySem L2
/-! kinds of things that are made, and what makes them -/
inductive Kd where
  | cst (v : V)
  | rng (lo hi : Int)
  | str (n : Nat)
  | nam
  | sgn
  | tup (ks : List Kd)
  | lst (ks : List Kd)
  | one (ks : List Kd)
  | tupN (n e : Nat)
  | nodN (n e : Nat)
  | lstN (m n e : Nat)
  | anyN (n e : Nat)
mutual
def Th.dp : Th → Nat
  | .at _ => 0
  | .tup xs => 1 + dps xs
  | .lst xs => 1 + dps xs
def dps : List Th → Nat
  | [] => 0
  | x :: xs => max (Th.dp x) (dps xs)
end
theorem dps_app : ∀ us ws : List Th, dps (us ++ ws) = max (dps us) (dps ws) := by
  intro us
  induction us with
  | nil => intro ws; simp [dps]
  | cons u us ih => intro ws; rw [List.cons_append, dps, dps, ih]; omega
theorem dps_mem : ∀ (us : List Th) {i : Nat} {t : Th}, us[i]? = some t → Th.dp t ≤ dps us := by
  intro us
  induction us with
  | nil => intro i t e; simp at e
  | cons u us ih =>
    intro i t e
    cases i with
    | zero => simp at e; subst e; simp only [dps]; omega
    | succ i => simp at e; have := ih e; simp only [dps]; omega
theorem dps_drop : ∀ (n : Nat) (ts : List Th), dps (ts.drop n) ≤ dps ts := by
  intro n
  induction n with
  | zero => intro ts; simp
  | succ n ih => intro ts; cases ts with
    | nil => simp
    | cons t ts => have := ih ts; simp only [List.drop_succ_cons, dps]; omega
theorem dps_take : ∀ (n : Nat) (ts : List Th), dps (ts.take n) ≤ dps ts := by
  intro n
  induction n with
  | zero => intro ts; simp [dps]
  | succ n ih => intro ts; cases ts with
    | nil => simp
    | cons t ts => have := ih ts; simp only [List.take_succ_cons, dps]; omega
mutual
def Shape : Kd → Th → Prop
  | .cst v, t => t = .at v
  | .rng lo hi, t => ∃ i : Int, t = .at (.int i) ∧ lo ≤ i ∧ i < hi
  | .str n, t => ∃ x : Str, t = .at (.str x) ∧ x.length ≤ n
  | .nam, t => ∃ x : Str, t = .at (.str x) ∧ isNameB x = true
  | .sgn, t => ∃ x : Str, t = .at (.str x) ∧ x ∈ signsL
  | .tup ks, t => ∃ ts, t = .tup ts ∧ Shapes ks ts
  | .lst ks, t => ∃ ts, t = .lst ts ∧ Shapes ks ts
  | .one ks, t => OneOf ks t
  | .tupN n e, t => ∃ ts, t = .tup ts ∧ szs ts ≤ n ∧ dps ts ≤ e
  | .nodN n e, t => ∃ u ts, t = .tup (u :: ts) ∧ szs (u :: ts) ≤ n ∧ dps (u :: ts) ≤ e
  | .lstN m n e, t => ∃ ts, t = .lst ts ∧ szs ts ≤ n ∧ m ≤ ts.length ∧ dps ts ≤ e
  | .anyN n e, t => Th.sz t ≤ n ∧ Th.dp t ≤ e
def Shapes : List Kd → List Th → Prop
  | [], ts => ts = []
  | k :: ks, ts => ∃ t r, ts = t :: r ∧ Shape k t ∧ Shapes ks r
def OneOf : List Kd → Th → Prop
  | [], _ => False
  | k :: ks, t => Shape k t ∨ OneOf ks t
end
mutual
def bnd : Kd → Nat
  | .cst _ => 1
  | .rng _ _ => 1
  | .str _ => 1
  | .nam => 1
  | .sgn => 1
  | .tup ks => 1 + bnds ks
  | .lst ks => 1 + bnds ks
  | .one ks => bnds ks
  | .tupN n _ => 1 + n
  | .nodN n _ => 1 + n
  | .lstN _ n _ => 1 + n
  | .anyN n _ => n
def bnds : List Kd → Nat
  | [] => 0
  | k :: ks => bnd k + bnds ks
end
mutual
def dpb : Kd → Nat
  | .cst _ => 0
  | .rng _ _ => 0
  | .str _ => 0
  | .nam => 0
  | .sgn => 0
  | .tup ks => 1 + dpbs ks
  | .lst ks => 1 + dpbs ks
  | .one ks => dpbs ks
  | .tupN _ e => 1 + e
  | .nodN _ e => 1 + e
  | .lstN _ _ e => 1 + e
  | .anyN _ e => e
def dpbs : List Kd → Nat
  | [] => 0
  | k :: ks => max (dpb k) (dpbs ks)
end
mutual
theorem shape_dp : ∀ (k : Kd) (t : Th), Shape k t → Th.dp t ≤ dpb k
  | .cst v, t, h => by rw [Shape] at h; subst h; simp [Th.dp]
  | .rng lo hi, t, h => by rw [Shape] at h; obtain ⟨i, rfl, _⟩ := h; simp [Th.dp]
  | .str n, t, h => by rw [Shape] at h; obtain ⟨i, rfl, _⟩ := h; simp [Th.dp]
  | .nam, t, h => by rw [Shape] at h; obtain ⟨i, rfl, _⟩ := h; simp [Th.dp]
  | .sgn, t, h => by rw [Shape] at h; obtain ⟨i, rfl, _⟩ := h; simp [Th.dp]
  | .tup ks, t, h => by rw [Shape] at h; obtain ⟨ts, rfl, hs⟩ := h; have := shapes_dp ks ts hs; simp only [Th.dp, dpb]; omega
  | .lst ks, t, h => by rw [Shape] at h; obtain ⟨ts, rfl, hs⟩ := h; have := shapes_dp ks ts hs; simp only [Th.dp, dpb]; omega
  | .one ks, t, h => by rw [Shape] at h; simp only [dpb]; exact one_dp ks t h
  | .tupN n e, t, h => by rw [Shape] at h; obtain ⟨ts, rfl, _, hs⟩ := h; simp only [Th.dp, dpb]; omega
  | .nodN n e, t, h => by rw [Shape] at h; obtain ⟨u, ts, rfl, _, hs⟩ := h; simp only [Th.dp, dpb]; omega
  | .lstN m n e, t, h => by rw [Shape] at h; obtain ⟨ts, rfl, _, _, hs⟩ := h; simp only [Th.dp, dpb]; omega
  | .anyN n e, t, h => by rw [Shape] at h; simp only [dpb]; exact h.2
theorem shapes_dp : ∀ (ks : List Kd) (ts : List Th), Shapes ks ts → dps ts ≤ dpbs ks
  | [], ts, h => by rw [Shapes] at h; subst h; simp [dps]
  | k :: ks, ts, h => by
    rw [Shapes] at h
    obtain ⟨t, r, rfl, h1, h2⟩ := h
    have a := shape_dp k t h1
    have b := shapes_dp ks r h2
    simp only [dps, dpbs]
    omega
theorem one_dp : ∀ (ks : List Kd) (t : Th), OneOf ks t → Th.dp t ≤ dpbs ks
  | [], t, h => by rw [OneOf] at h; exact h.elim
  | k :: ks, t, h => by
    rw [OneOf] at h
    simp only [dpbs]
    rcases h with h | h
    · have a := shape_dp k t h
      omega
    · have b := one_dp ks t h
      omega
end
mutual
theorem shape_sz : ∀ (k : Kd) (t : Th), Shape k t → Th.sz t ≤ bnd k
  | .cst v, t, h => by rw [Shape] at h; subst h; simp [Th.sz, bnd]
  | .rng lo hi, t, h => by rw [Shape] at h; obtain ⟨i, rfl, _⟩ := h; simp [Th.sz, bnd]
  | .str n, t, h => by rw [Shape] at h; obtain ⟨i, rfl, _⟩ := h; simp [Th.sz, bnd]
  | .nam, t, h => by rw [Shape] at h; obtain ⟨i, rfl, _⟩ := h; simp [Th.sz, bnd]
  | .sgn, t, h => by rw [Shape] at h; obtain ⟨i, rfl, _⟩ := h; simp [Th.sz, bnd]
  | .tup ks, t, h => by rw [Shape] at h; obtain ⟨ts, rfl, hs⟩ := h; have := shapes_sz ks ts hs; simp only [Th.sz, bnd]; omega
  | .lst ks, t, h => by rw [Shape] at h; obtain ⟨ts, rfl, hs⟩ := h; have := shapes_sz ks ts hs; simp only [Th.sz, bnd]; omega
  | .one ks, t, h => by rw [Shape] at h; simp only [bnd]; exact one_sz ks t h
  | .tupN n e, t, h => by rw [Shape] at h; obtain ⟨ts, rfl, hs, _⟩ := h; simp only [Th.sz, bnd]; omega
  | .nodN n e, t, h => by rw [Shape] at h; obtain ⟨u, ts, rfl, hs, _⟩ := h; simp only [Th.sz, bnd]; omega
  | .lstN m n e, t, h => by rw [Shape] at h; obtain ⟨ts, rfl, hs, _⟩ := h; simp only [Th.sz, bnd]; omega
  | .anyN n e, t, h => by rw [Shape] at h; simp only [bnd]; exact h.1
theorem shapes_sz : ∀ (ks : List Kd) (ts : List Th), Shapes ks ts → szs ts ≤ bnds ks
  | [], ts, h => by rw [Shapes] at h; subst h; simp [szs]
  | k :: ks, ts, h => by
    rw [Shapes] at h
    obtain ⟨t, r, rfl, h1, h2⟩ := h
    have a := shape_sz k t h1
    have b := shapes_sz ks r h2
    simp only [szs, bnds]
    omega
theorem one_sz : ∀ (ks : List Kd) (t : Th), OneOf ks t → Th.sz t ≤ bnds ks
  | [], t, h => by rw [OneOf] at h; exact h.elim
  | k :: ks, t, h => by
    rw [OneOf] at h
    simp only [bnds]
    rcases h with h | h
    · have a := shape_sz k t h
      omega
    · have b := one_sz ks t h
      omega
end
theorem shapes_len : ∀ (ks : List Kd) (ts : List Th), Shapes ks ts → ts.length = ks.length := by
  intro ks
  induction ks with
  | nil => intro ts h; rw [Shapes] at h; subst h; rfl
  | cons k ks ih => intro ts h; rw [Shapes] at h; obtain ⟨t, r, rfl, _, h2⟩ := h; rw [List.length_cons, List.length_cons, ih r h2]
theorem shapes_app : ∀ (a : List Kd) {b : List Kd} {ts us : List Th}, Shapes a ts → Shapes b us → Shapes (a ++ b) (ts ++ us) := by
  intro a
  induction a with
  | nil => intro b ts us h g; rw [Shapes] at h; subst h; exact g
  | cons k a ih =>
    intro b ts us h g
    rw [Shapes] at h
    obtain ⟨t, r, rfl, h1, h2⟩ := h
    rw [List.cons_append, Shapes]
    exact ⟨t, r ++ us, rfl, h1, ih h2 g⟩
theorem shapes_rep {a : List Kd} {ts : List Th} (h : Shapes a ts) : ∀ n : Nat, Shapes (List.replicate n a).flatten (List.replicate n ts).flatten := by
  intro n
  induction n with
  | zero => rw [List.replicate_zero, List.replicate_zero]; simp [Shapes]
  | succ n ih => rw [List.replicate_succ, List.replicate_succ, List.flatten_cons, List.flatten_cons]; exact shapes_app a h ih
theorem shapes_get : ∀ (ks : List Kd) {ts : List Th} {i : Nat} {t : Th}, Shapes ks ts → ts[i]? = some t → ∃ k, ks[i]? = some k ∧ Shape k t := by
  intro ks
  induction ks with
  | nil => intro ts i t h e; rw [Shapes] at h; subst h; simp at e
  | cons k ks ih =>
    intro ts i t h e
    rw [Shapes] at h
    obtain ⟨u, r, rfl, h1, h2⟩ := h
    cases i with
    | zero => simp at e; subst e; exact ⟨k, rfl, h1⟩
    | succ i => simp at e; obtain ⟨k', e1, e2⟩ := ih h2 e; exact ⟨k', by simpa using e1, e2⟩
theorem one_of : ∀ (ks : List Kd) {i : Nat} {k : Kd} {t : Th}, ks[i]? = some k → Shape k t → OneOf ks t := by
  intro ks
  induction ks with
  | nil => intro i k t e; simp at e
  | cons k ks ih =>
    intro i k' t e h
    rw [OneOf]
    cases i with
    | zero => simp at e; subst e; exact .inl h
    | succ i => simp at e; exact .inr (ih e h)
theorem ths_rep {H : Hp} {vs : List V} {ts : List Th} (h : IsThs H vs ts) : ∀ n : Nat, IsThs H (List.replicate n vs).flatten (List.replicate n ts).flatten := by
  intro n
  induction n with
  | zero => rw [List.replicate_zero, List.replicate_zero]; exact .nil
  | succ n ih => rw [List.replicate_succ, List.replicate_succ, List.flatten_cons, List.flatten_cons]; exact IsThs.app _ h ih
theorem ths_drop {H : Hp} : ∀ (n : Nat) {vs : List V} {ts : List Th}, IsThs H vs ts → IsThs H (vs.drop n) (ts.drop n) := by
  intro n
  induction n with
  | zero => intro vs ts h; exact h
  | succ n ih =>
    intro vs ts h
    cases h with
    | nil => simp; exact .nil
    | cons a b => exact ih b
theorem ths_take {H : Hp} : ∀ (n : Nat) {vs : List V} {ts : List Th}, IsThs H vs ts → IsThs H (vs.take n) (ts.take n) := by
  intro n
  induction n with
  | zero => intro vs ts h; simp; exact .nil
  | succ n ih =>
    intro vs ts h
    cases h with
    | nil => simp; exact .nil
    | cons a b => exact .cons a (ih b)
theorem szs_drop : ∀ (n : Nat) (ts : List Th), szs (ts.drop n) ≤ szs ts := by
  intro n
  induction n with
  | zero => intro ts; simp
  | succ n ih => intro ts; cases ts with
    | nil => simp
    | cons t ts => have := ih ts; simp only [List.drop_succ_cons, szs]; omega
theorem szs_take : ∀ (n : Nat) (ts : List Th), szs (ts.take n) ≤ szs ts := by
  intro n
  induction n with
  | zero => intro ts; simp [szs]
  | succ n ih => intro ts; cases ts with
    | nil => simp
    | cons t ts => have := ih ts; simp only [List.take_succ_cons, szs]; omega
theorem ths_cut {H : Hp} {vs : List V} {ts : List Th} (h : IsThs H vs ts) (lo hi : Option Int) : ∃ us, IsThs H (cutV vs lo hi) us ∧ szs us ≤ szs ts ∧ dps us ≤ dps ts := by
  unfold cutV
  exact ⟨_, ths_take _ (ths_drop _ h), Nat.le_trans (szs_take _ _) (szs_drop _ _), Nat.le_trans (dps_take _ _) (dps_drop _ _)⟩
theorem ths_at {H : Hp} : ∀ (vs : List V) {ts : List Th} {i : Nat} {t : Th}, IsThs H vs ts → ts[i]? = some t → ∃ v, vs[i]? = some v ∧ IsTh H v t := by
  intro vs
  induction vs with
  | nil => intro ts i t h e; cases h; simp at e
  | cons v vs ih =>
    intro ts i t h e
    cases h with
    | cons a b =>
      cases i with
      | zero => simp at e; subst e; exact ⟨v, rfl, a⟩
      | succ i => simp at e; obtain ⟨w, e1, e2⟩ := ih b e; exact ⟨w, by simpa using e1, e2⟩
/-! what a value is, as kinds tell it -/
def Den (k : Kd) (H : Hp) (v : V) : Prop := ∃ t, IsTh H v t ∧ Shape k t
def Dens (ks : List Kd) (H : Hp) (vs : List V) : Prop := ∃ ts, IsThs H vs ts ∧ Shapes ks ts
theorem Den.kp {k : Kd} {H H' : Hp} {v : V} (s : Kp H H') (h : Den k H v) : Den k H' v := let ⟨t, a, b⟩ := h; ⟨t, IsTh.kp s a, b⟩
theorem Dens.kp {ks : List Kd} {H H' : Hp} {vs : List V} (s : Kp H H') (h : Dens ks H vs) : Dens ks H' vs := let ⟨t, a, b⟩ := h; ⟨t, IsThs.kp s a, b⟩
theorem Dens.cons {k : Kd} {ks : List Kd} {H : Hp} {v : V} {vs : List V} (a : Den k H v) (b : Dens ks H vs) : Dens (k :: ks) H (v :: vs) := by
  obtain ⟨t, a1, a2⟩ := a
  obtain ⟨ts, b1, b2⟩ := b
  exact ⟨t :: ts, .cons a1 b1, by rw [Shapes]; exact ⟨t, ts, rfl, a2, b2⟩⟩
theorem Dens.len {ks : List Kd} {H : Hp} {vs : List V} (h : Dens ks H vs) : vs.length = ks.length := by
  obtain ⟨ts, a, b⟩ := h
  rw [IsThs.len _ a, shapes_len _ _ b]
theorem den_rng {lo hi i : Int} {H : Hp} (h1 : lo ≤ i) (h2 : i < hi) : Den (.rng lo hi) H (.int i) := ⟨.at (.int i), .at rfl, by rw [Shape]; exact ⟨i, rfl, h1, h2⟩⟩
theorem den_str {n : Nat} {x : Str} {H : Hp} (h : x.length ≤ n) (hn : n ≤ 1000) : Den (.str n) H (.str x) :=
  ⟨.at (.str x), .at (by show decide (x.length ≤ 1000) = true; rw [decide_eq_true_iff]; omega), by rw [Shape]; exact ⟨x, rfl, h⟩⟩
theorem den_nam {x : Str} {H : Hp} (h : isNameB x = true) (hl : x.length ≤ 8) : Den .nam H (.str x) :=
  ⟨.at (.str x), .at (by show decide (x.length ≤ 1000) = true; rw [decide_eq_true_iff]; omega), by rw [Shape]; exact ⟨x, rfl, h⟩⟩
theorem den_cst {v : V} {H : Hp} (h : smallV v = true) : Den (.cst v) H v := ⟨.at v, .at h, by rw [Shape]⟩
theorem den_tup {ks : List Kd} {H : Hp} {a : Addr} {vs : List V} (h : H a = some (.tup vs)) (d : Dens ks H vs) : Den (.tup ks) H (.ref a) := by
  obtain ⟨ts, x, y⟩ := d
  exact ⟨.tup ts, .tup h x, by rw [Shape]; exact ⟨ts, rfl, y⟩⟩
theorem den_lst {ks : List Kd} {H : Hp} {a : Addr} {vs : List V} (h : H a = some (.lst vs)) (d : Dens ks H vs) : Den (.lst ks) H (.ref a) := by
  obtain ⟨ts, x, y⟩ := d
  exact ⟨.lst ts, .lst h x, by rw [Shape]; exact ⟨ts, rfl, y⟩⟩
theorem th_tup {H : Hp} {v : V} {ts : List Th} (h : IsTh H v (.tup ts)) : ∃ a vs, v = .ref a ∧ H a = some (.tup vs) ∧ IsThs H vs ts := by
  cases h with
  | tup e r => exact ⟨_, _, rfl, e, r⟩
theorem th_lst {H : Hp} {v : V} {ts : List Th} (h : IsTh H v (.lst ts)) : ∃ a vs, v = .ref a ∧ H a = some (.lst vs) ∧ IsThs H vs ts := by
  cases h with
  | lst e r => exact ⟨_, _, rfl, e, r⟩
theorem th_at {H : Hp} {v w : V} (h : IsTh H v (.at w)) : v = w ∧ smallV w = true := by
  cases h with
  | «at» f => exact ⟨rfl, f⟩
theorem of_tup {ks : List Kd} {H : Hp} {v : V} (h : Den (.tup ks) H v) : ∃ a vs, v = .ref a ∧ H a = some (.tup vs) ∧ Dens ks H vs := by
  obtain ⟨t, a, b⟩ := h
  rw [Shape] at b
  obtain ⟨ts, rfl, hs⟩ := b
  obtain ⟨p, vs, e, h1, h2⟩ := th_tup a
  exact ⟨p, vs, e, h1, ts, h2, hs⟩
theorem of_lst {ks : List Kd} {H : Hp} {v : V} (h : Den (.lst ks) H v) : ∃ a vs, v = .ref a ∧ H a = some (.lst vs) ∧ Dens ks H vs := by
  obtain ⟨t, a, b⟩ := h
  rw [Shape] at b
  obtain ⟨ts, rfl, hs⟩ := b
  obtain ⟨p, vs, e, h1, h2⟩ := th_lst a
  exact ⟨p, vs, e, h1, ts, h2, hs⟩
def asInt : Kd → Option (Int × Int)
  | .cst (.int i) => some (i, i + 1)
  | .rng lo hi => some (lo, hi)
  | _ => none
def asStr : Kd → Option Nat
  | .cst (.str x) => some x.length
  | .str n => some n
  | .nam => some 8
  | .sgn => some 1
  | _ => none
def asTup : Kd → Option (Nat × Nat)
  | .tup ks => some (bnds ks, dpbs ks)
  | .tupN n e => some (n, e)
  | .nodN n e => some (n, e)
  | _ => none
theorem as_int {k : Kd} {lo hi : Int} {H : Hp} {v : V} (h : asInt k = some (lo, hi)) (d : Den k H v) : ∃ i : Int, v = .int i ∧ lo ≤ i ∧ i < hi := by
  obtain ⟨t, a, b⟩ := d
  cases k with
  | cst w =>
    cases w with
    | int i =>
      rw [Shape] at b; subst b
      have e := Option.some.inj h
      injection e with e1 e2
      subst e1 e2
      exact ⟨i, (th_at a).1, Int.le_refl _, by omega⟩
    | _ => cases h
  | rng l u =>
    rw [Shape] at b
    obtain ⟨i, rfl, b1, b2⟩ := b
    have e := Option.some.inj h
    injection e with e1 e2
    subst e1 e2
    exact ⟨i, (th_at a).1, b1, b2⟩
  | _ => cases h
theorem name_len {x : Str} (h : isNameB x = true) : x.length ≤ 8 := by
  unfold isNameB at h
  rw [Bool.and_eq_true, Bool.and_eq_true] at h
  exact of_decide_eq_true h.2.1
theorem as_str {k : Kd} {n : Nat} {H : Hp} {v : V} (h : asStr k = some n) (d : Den k H v) : ∃ x : Str, v = .str x ∧ x.length ≤ n := by
  obtain ⟨t, a, b⟩ := d
  cases k with
  | cst w =>
    cases w with
    | str x =>
      rw [Shape] at b; subst b
      have e := Option.some.inj h
      exact ⟨x, (th_at a).1, by omega⟩
    | _ => cases h
  | str m =>
    rw [Shape] at b
    obtain ⟨x, rfl, b1⟩ := b
    have e := Option.some.inj h
    exact ⟨x, (th_at a).1, by omega⟩
  | nam =>
    rw [Shape] at b
    obtain ⟨x, rfl, b1⟩ := b
    have e := Option.some.inj h
    have := name_len b1
    exact ⟨x, (th_at a).1, by omega⟩
  | sgn =>
    rw [Shape] at b
    obtain ⟨x, rfl, b1⟩ := b
    have e := Option.some.inj h
    have hl : ∀ s ∈ signsL, s.length = 1 := by decide +kernel
    have := hl x b1
    exact ⟨x, (th_at a).1, by omega⟩
  | _ => cases h
theorem as_tup {k : Kd} {n e : Nat} {H : Hp} {v : V} (h : asTup k = some (n, e)) (d : Den k H v) : ∃ a vs ts, v = .ref a ∧ H a = some (.tup vs) ∧ IsThs H vs ts ∧ szs ts ≤ n ∧ dps ts ≤ e := by
  obtain ⟨t, a, b⟩ := d
  cases k with
  | tup ks =>
    rw [Shape] at b
    obtain ⟨ts, rfl, hs⟩ := b
    obtain ⟨p, vs, e, h1, h2⟩ := th_tup a
    have e' := Option.some.inj h
    injection e' with e1 e2
    have := shapes_sz ks ts hs
    have := shapes_dp ks ts hs
    exact ⟨p, vs, ts, e, h1, h2, by omega, by omega⟩
  | tupN m =>
    rw [Shape] at b
    obtain ⟨ts, rfl, hs, hd⟩ := b
    obtain ⟨p, vs, e, h1, h2⟩ := th_tup a
    have e' := Option.some.inj h
    injection e' with e1 e2
    exact ⟨p, vs, ts, e, h1, h2, by omega, by omega⟩
  | nodN m =>
    rw [Shape] at b
    obtain ⟨u, ts, rfl, hs, hd⟩ := b
    obtain ⟨p, vs, e, h1, h2⟩ := th_tup a
    have e' := Option.some.inj h
    injection e' with e1 e2
    exact ⟨p, vs, _, e, h1, h2, by omega, by omega⟩
  | _ => cases h
end K08

set_option Elab.async false
set_option linter.all false
set_option maxRecDepth 100000
set_option maxHeartbeats 4000000
namespace K08
open PySem L2
/-! two things make one -/
def addK4 (k1 k2 : Kd) : Option Kd := match asInt k1, asInt k2 with
  | some (a, b), some (c, e) => some (.rng (a + c) (b + e - 1))
  | _, _ => none
def addK3 (k1 k2 : Kd) : Option Kd := match asStr k1, asStr k2 with
  | some m, some n => if m + n ≤ 1000 then some (.str (m + n)) else none
  | _, _ => addK4 k1 k2
def addK2 (k1 k2 : Kd) : Option Kd := match asTup k1, asTup k2 with
  | some (m, a), some (n, b) => if m + n ≤ 1000000 then some (.tupN (m + n) (max a b)) else none
  | _, _ => addK3 k1 k2
/-- a list of things, sizes together at most m -/
def asLst : Kd → Option (Nat × Nat × Nat)
  | .lst ks => some (ks.length, bnds ks, dpbs ks)
  | .lstN m n e => some (m, n, e)
  | _ => none
def addKL (k1 k2 : Kd) : Option Kd := match asLst k1, asLst k2 with
  | some (a, m, p), some (b, n, q) => if m + n ≤ 1000000 then some (.lstN (a + b) (m + n) (max p q)) else none
  | _, _ => addK2 k1 k2
def addK (k1 k2 : Kd) : Option Kd := match k1, k2 with
  | .tup a, .tup b => if a.length + b.length ≤ 1000 then some (.tup (a ++ b)) else none
  | .lst a, .lst b => if a.length + b.length ≤ 1000 then some (.lst (a ++ b)) else none
  | k1, k2 => addKL k1 k2
def subK (k1 k2 : Kd) : Option Kd := match asInt k1, asInt k2 with
  | some (a, b), some (c, e) => some (.rng (a - e + 1) (b - c))
  | _, _ => none
def mulK2 (k1 k2 : Kd) : Option Kd := match asInt k1, asInt k2 with
  | some (a, b), some (c, e) => if 0 ≤ a ∧ 0 ≤ c ∧ (b ≤ 18446744073709551616 ∨ e ≤ 18446744073709551616) then some (.rng (a * c) ((b - 1) * (e - 1) + 1)) else none
  | _, _ => none
def mulK (k1 k2 : Kd) : Option Kd := match k1, k2 with
  | .tup a, .cst (.int n) => if 2 ≤ n ∧ n ≤ 100 ∧ 1 ≤ a.length ∧ a.length ≤ 10 then some (.tup (List.replicate n.toNat a).flatten) else none
  | k1, k2 => mulK2 k1 k2
def powK (k1 k2 : Kd) : Option Kd := match k1, k2 with
  | .cst (.int i), .cst (.int j) => if 0 ≤ j ∧ j ≤ 1000 ∧ i.natAbs < 18446744073709551616 then some (.cst (.int (i ^ j.toNat))) else none
  | _, _ => none
def binK : Operator → Kd → Kd → Option Kd
  | .Add, k1, k2 => addK k1 k2
  | .Sub, k1, k2 => subK k1 k2
  | .Mult, k1, k2 => mulK k1 k2
  | .Pow, k1, k2 => powK k1 k2
  | _, _, _ => none
def BinOk (X : Cx) (op : Operator) (k1 k2 k : Kd) : Prop := ∃ r, OpR X (binaryOp op) r ∧ ∀ x y H Q, Den k1 H x → Den k2 H y → (∀ v H', Same H H' → Den k H' v → Q v H') → r x y H Q
section
variable {X : Cx}
theorem size_ok {n : Nat} (h : n ≤ 1000000) : n ≤ sizeLine := Nat.le_trans h (by decide)
theorem add_ok4 {k1 k2 k : Kd} (h : addK4 k1 k2 = some k) : BinOk X .Add k1 k2 k := by
  unfold addK4 at h
  split at h
  · rename_i a b c e h1 h2
    cases h
    refine ⟨_, op_add, fun x y H Q d1 d2 q => ?_⟩
    obtain ⟨i, rfl, i1, i2⟩ := as_int h1 d1
    obtain ⟨j, rfl, j1, j2⟩ := as_int h2 d2
    exact ⟨i, j, rfl, rfl, q _ H (Same.refl H) (den_rng (by omega) (by omega))⟩
  · cases h
theorem add_ok3 {k1 k2 k : Kd} (h : addK3 k1 k2 = some k) : BinOk X .Add k1 k2 k := by
  unfold addK3 at h
  split at h
  · rename_i m n h1 h2
    split at h
    · rename_i hm
      cases h
      refine ⟨_, op_add_str, fun x y H Q d1 d2 q => ?_⟩
      obtain ⟨i, rfl, i1⟩ := as_str h1 d1
      obtain ⟨j, rfl, j1⟩ := as_str h2 d2
      exact ⟨i, j, rfl, rfl, size_ok (by omega), q _ H (Same.refl H) (den_str (by rw [app_len]; omega) hm)⟩
    · cases h
  · exact add_ok4 h
theorem add_ok2 {k1 k2 k : Kd} (h : addK2 k1 k2 = some k) : BinOk X .Add k1 k2 k := by
  unfold addK2 at h
  split at h
  · rename_i m e1 n e2 h1 h2
    split at h
    · rename_i hm
      cases h
      refine ⟨_, op_catP, fun x y H Q d1 d2 q => ?_⟩
      obtain ⟨a, vs, ts, rfl, a1, a2, a3, a4⟩ := as_tup h1 d1
      obtain ⟨b, ws, us, rfl, b1, b2, b3, b4⟩ := as_tup h2 d2
      have l1 := IsThs.len _ a2
      have l2 := IsThs.len _ b2
      have l3 := szs_len ts
      have l4 := szs_len us
      refine ⟨a, b, vs, ws, rfl, rfl, a1, b1, size_ok (by omega), fun p H' s hp => q _ H' s ⟨.tup (ts ++ us), .tup hp (IsThs.app _ (IsThs.kp (Kp.of s) a2) (IsThs.kp (Kp.of s) b2)), ?_⟩⟩
      rw [Shape]
      exact ⟨_, rfl, by rw [szs_app]; omega, by rw [dps_app]; omega⟩
    · cases h
  · exact add_ok3 h
theorem of_lstN {k : Kd} {m n c : Nat} {H : Hp} {v : V} (h : asLst k = some (m, n, c)) (dv : Den k H v) : ∃ a vs ts, v = .ref a ∧ H a = some (.lst vs) ∧ IsThs H vs ts ∧ szs ts ≤ n ∧ m ≤ ts.length ∧ dps ts ≤ c := by
  obtain ⟨t, a, b⟩ := dv
  cases k with
  | lst ks =>
    rw [Shape] at b
    obtain ⟨ts, rfl, hs⟩ := b
    obtain ⟨p, vs, e, h1, h2⟩ := th_lst a
    have e' := Option.some.inj h
    injection e' with e1 e2
    injection e2 with e2 e3
    have := shapes_sz ks ts hs
    have := shapes_len ks ts hs
    have := shapes_dp ks ts hs
    exact ⟨p, vs, ts, e, h1, h2, by omega, by omega, by omega⟩
  | lstN m' n' c' =>
    rw [Shape] at b
    obtain ⟨ts, rfl, hs, hm, hd⟩ := b
    obtain ⟨p, vs, e, h1, h2⟩ := th_lst a
    have e' := Option.some.inj h
    injection e' with e1 e2
    injection e2 with e2 e3
    exact ⟨p, vs, ts, e, h1, h2, by omega, by omega, by omega⟩
  | _ => cases h
theorem add_okL {k1 k2 k : Kd} (h : addKL k1 k2 = some k) : BinOk X .Add k1 k2 k := by
  unfold addKL at h
  split at h
  · rename_i q m e1 q2 n e2 h1 h2
    split at h
    · rename_i hm
      cases h
      refine ⟨_, op_cat, fun x y H Q d1 d2 q => ?_⟩
      obtain ⟨a, vs, ts, rfl, a1, a2, a3, a4, a5⟩ := of_lstN h1 d1
      obtain ⟨b, ws, us, rfl, b1, b2, b3, b4, b5⟩ := of_lstN h2 d2
      have l1 := IsThs.len _ a2
      have l2 := IsThs.len _ b2
      have l3 := szs_len ts
      have l4 := szs_len us
      refine ⟨a, b, vs, ws, rfl, rfl, a1, b1, size_ok (by omega), fun p hp => ?_⟩
      have s := same_upd (o := .lst (vs ++ ws)) hp
      refine q _ _ s ⟨.lst (ts ++ us), .lst upd_same (IsThs.app _ (IsThs.kp (Kp.of s) a2) (IsThs.kp (Kp.of s) b2)), ?_⟩
      rw [Shape]
      exact ⟨_, rfl, by rw [szs_app]; omega, by rw [List.length_append]; omega, by rw [dps_app]; omega⟩
    · cases h
  · exact add_ok2 h
theorem add_ok {k1 k2 k : Kd} (h : addK k1 k2 = some k) : BinOk X .Add k1 k2 k := by
  unfold addK at h
  split at h
  · rename_i a b
    split at h
    · rename_i hm
      cases h
      refine ⟨_, op_catP, fun x y H Q d1 d2 q => ?_⟩
      obtain ⟨p1, vs, rfl, a1, a2⟩ := of_tup d1
      obtain ⟨p2, ws, rfl, b1, b2⟩ := of_tup d2
      have l1 := a2.len
      have l2 := b2.len
      refine ⟨p1, p2, vs, ws, rfl, rfl, a1, b1, size_ok (by omega), fun p H' s hp => q _ H' s (den_tup hp ?_)⟩
      obtain ⟨ts, t1, t2⟩ := a2
      obtain ⟨us, u1, u2⟩ := b2
      exact ⟨ts ++ us, IsThs.app _ (IsThs.kp (Kp.of s) t1) (IsThs.kp (Kp.of s) u1), shapes_app _ t2 u2⟩
    · cases h
  · rename_i a b
    split at h
    · rename_i hm
      cases h
      refine ⟨_, op_cat, fun x y H Q d1 d2 q => ?_⟩
      obtain ⟨p1, vs, rfl, a1, a2⟩ := of_lst d1
      obtain ⟨p2, ws, rfl, b1, b2⟩ := of_lst d2
      have l1 := a2.len
      have l2 := b2.len
      refine ⟨p1, p2, vs, ws, rfl, rfl, a1, b1, size_ok (by omega), fun p hp => q _ _ (same_upd hp) (den_lst upd_same ?_)⟩
      obtain ⟨ts, t1, t2⟩ := a2
      obtain ⟨us, u1, u2⟩ := b2
      have s := Kp.of (same_upd (o := .lst (vs ++ ws)) hp)
      exact ⟨ts ++ us, IsThs.app _ (IsThs.kp s t1) (IsThs.kp s u1), shapes_app _ t2 u2⟩
    · cases h
  · exact add_okL h
theorem sub_ok {k1 k2 k : Kd} (h : subK k1 k2 = some k) : BinOk X .Sub k1 k2 k := by
  unfold subK at h
  split at h
  · rename_i a b c e h1 h2
    cases h
    refine ⟨_, op_sub, fun x y H Q d1 d2 q => ?_⟩
    obtain ⟨i, rfl, i1, i2⟩ := as_int h1 d1
    obtain ⟨j, rfl, j1, j2⟩ := as_int h2 d2
    exact ⟨i, j, rfl, rfl, q _ H (Same.refl H) (den_rng (by omega) (by omega))⟩
  · cases h
theorem mul_ok2 {k1 k2 k : Kd} (h : mulK2 k1 k2 = some k) : BinOk X .Mult k1 k2 k := by
  unfold mulK2 at h
  split at h
  · rename_i a b c e h1 h2
    split at h
    · rename_i hm
      obtain ⟨m1, m2, m3⟩ := hm
      cases h
      refine ⟨_, op_mul, fun x y H Q d1 d2 q => ?_⟩
      obtain ⟨i, rfl, i1, i2⟩ := as_int h1 d1
      obtain ⟨j, rfl, j1, j2⟩ := as_int h2 d2
      have q1 : a * c ≤ i * j := Int.mul_le_mul i1 j1 m2 (by omega)
      have q2 : i * j ≤ (b - 1) * (e - 1) := Int.mul_le_mul (by omega) (by omega) (by omega) (by omega)
      refine ⟨i, j, rfl, rfl, ?_, q _ H (Same.refl H) (den_rng q1 (by omega))⟩
      rcases m3 with m3 | m3
      · exact .inl ⟨by omega, by omega⟩
      · exact .inr ⟨by omega, by omega⟩
    · cases h
  · cases h
theorem mul_ok {k1 k2 k : Kd} (h : mulK k1 k2 = some k) : BinOk X .Mult k1 k2 k := by
  unfold mulK at h
  split at h
  · rename_i a n
    split at h
    · rename_i hm
      obtain ⟨m1, m2, m3, m4⟩ := hm
      cases h
      refine ⟨_, op_repT, fun x y H Q d1 d2 q => ?_⟩
      obtain ⟨p1, vs, rfl, a1, a2⟩ := of_tup d1
      obtain ⟨i, rfl, i1, i2⟩ := as_int rfl d2
      have ei : i = n := by omega
      subst ei
      have l1 := a2.len
      refine ⟨p1, i, vs, rfl, rfl, SqT.of a1, (fun z => by rw [z] at l1; simp at l1; omega), m1, by omega, by omega, fun p hp => q _ _ (same_upd hp) (den_tup upd_same ?_)⟩
      obtain ⟨ts, t1, t2⟩ := a2
      exact ⟨_, ths_rep (IsThs.kp (Kp.of (same_upd hp)) t1) _, shapes_rep t2 _⟩
    · cases h
  · exact mul_ok2 h
theorem pow_ok {k1 k2 k : Kd} (h : powK k1 k2 = some k) : BinOk X .Pow k1 k2 k := by
  unfold powK at h
  split at h
  · rename_i i j
    split at h
    · rename_i hm
      cases h
      refine ⟨_, op_pow, fun x y H Q d1 d2 q => ?_⟩
      obtain ⟨i', rfl, i1, i2⟩ := as_int rfl d1
      obtain ⟨j', rfl, j1, j2⟩ := as_int rfl d2
      have ei : i' = i := by omega
      have ej : j' = j := by omega
      subst ei ej
      exact ⟨i', j', rfl, rfl, ⟨hm.1, by omega, hm.2.2⟩, q _ H (Same.refl H) (den_cst rfl)⟩
    · cases h
  · cases h
theorem bin_ok {op : Operator} {k1 k2 k : Kd} (h : binK op k1 k2 = some k) : BinOk X op k1 k2 k := by
  cases op with
  | Add => exact add_ok h
  | Sub => exact sub_ok h
  | Mult => exact mul_ok h
  | Pow => exact pow_ok h
  | _ => cases h
end
/-! x[i], x[i:j] -/
def ixK (k1 k2 : Kd) : Option Kd := match k1 with
  | .lst ks => (match asInt k2 with
    | some (lo, hi) => if 0 ≤ lo ∧ hi ≤ ks.length then (if hi = lo + 1 then ks[lo.toNat]? else some (.one ks)) else none
    | none => none)
  | .nodN n e => (match asInt k2 with
    | some (lo, hi) => if lo = 0 ∧ hi = 1 then some (.anyN n e) else none
    | none => none)
  | .cst (.str x) => (match asInt k2 with
    | some (lo, hi) => if x = signText ∧ 0 ≤ lo ∧ hi ≤ 6 then some .sgn else none
    | none => none)
  | _ => none
def IxOk (X : Cx) (k1 k2 k : Kd) : Prop := ∃ r, IxR X r ∧ ∀ x y H Q, Den k1 H x → Den k2 H y → (∀ v H', Same H H' → Den k H' v → Q v H') → r x y H Q
section
variable {X : Cx}
theorem sign_at : ∀ i : Fin 6, ∃ c, signText.cps.toList[i.val]? = some c ∧ (⟨#[c]⟩ : Str) ∈ signsL := by
  have h : ∀ i : Fin 6, ((signText.cps.toList[i.val]?).map fun c => decide ((⟨#[c]⟩ : Str) ∈ signsL)) = some true := by decide +kernel
  intro i
  have := h i
  cases e : signText.cps.toList[i.val]? with
  | none => rw [e] at this; cases this
  | some c =>
    rw [e] at this
    exact ⟨c, rfl, of_decide_eq_true (Option.some.inj this)⟩
theorem ix_ok {k1 k2 k : Kd} (h : ixK k1 k2 = some k) : IxOk X k1 k2 k := by
  unfold ixK at h
  split at h
  · rename_i ks
    split at h
    · rename_i lo hi h2
      split at h
      · rename_i hm
        refine ⟨_, ix_list, fun x y H Q d1 d2 q => ?_⟩
        obtain ⟨p1, vs, rfl, a1, ts, t1, t2⟩ := of_lst d1
        obtain ⟨i, rfl, i1, i2⟩ := as_int h2 d2
        have l1 := IsThs.len _ t1
        have l2 := shapes_len _ _ t2
        have ei : i = (i.toNat : Int) := by omega
        have hi' : i.toNat < ts.length := by omega
        obtain ⟨v, e1, e2⟩ := ths_at vs t1 (List.getElem?_eq_getElem hi')
        obtain ⟨k', e3, e4⟩ := shapes_get ks t2 (List.getElem?_eq_getElem hi')
        refine ⟨p1, vs, i, v, rfl, rfl, SqL.of a1, by rw [ei]; exact atI_nat e1, q v H (Same.refl H) ⟨_, e2, ?_⟩⟩
        split at h
        · rename_i hq
          have : i.toNat = lo.toNat := by omega
          rw [this, h] at e3
          cases e3
          exact e4
        · cases h
          rw [Shape]
          exact one_of ks e3 e4
      · cases h
    · cases h
  · rename_i n e0
    split at h
    · rename_i lo hi h2
      split at h
      · rename_i hm
        cases h
        refine ⟨_, ix_tup, fun x y H Q d1 d2 q => ?_⟩
        obtain ⟨t, a, b⟩ := d1
        rw [Shape] at b
        obtain ⟨u, ts, rfl, hs, hd⟩ := b
        obtain ⟨p, vs, rfl, a1, a2⟩ := th_tup a
        obtain ⟨i, rfl, i1, i2⟩ := as_int h2 d2
        have ei : i = ((0 : Nat) : Int) := by omega
        cases a2 with
        | @cons v vs' _ _ c1 c2 =>
          refine ⟨p, v :: vs', i, v, rfl, rfl, SqT.of a1, by rw [ei]; exact atI_nat rfl, q v H (Same.refl H) ⟨u, c1, ?_⟩⟩
          rw [Shape]
          simp only [szs] at hs
          simp only [dps] at hd
          exact ⟨by omega, by omega⟩
      · cases h
    · cases h
  · rename_i x0
    split at h
    · rename_i lo hi h2
      split at h
      · rename_i hm
        obtain ⟨m1, m2, m3⟩ := hm
        cases h
        refine ⟨_, ix_str, fun x y H Q d1 d2 q => ?_⟩
        obtain ⟨t, a, b⟩ := d1
        rw [Shape] at b
        subst b m1
        obtain ⟨rfl, _⟩ := th_at a
        obtain ⟨i, rfl, i1, i2⟩ := as_int h2 d2
        obtain ⟨c, e1, e2⟩ := sign_at ⟨i.toNat, by omega⟩
        have ei : i = (i.toNat : Int) := by omega
        refine ⟨signText, i, c, rfl, rfl, by decide +kernel, by rw [ei]; exact atI_nat e1, q _ H (Same.refl H) ⟨.at (.str ⟨#[c]⟩), .at (by show decide ((1 : Nat) ≤ 1000) = true; decide), ?_⟩⟩
        rw [Shape]
        exact ⟨_, rfl, e2⟩
      · cases h
    · cases h
  · cases h
def slK (k : Kd) : Option Kd := match asTup k with
  | some (n, e) => some (.tupN n e)
  | none => match asStr k with
    | some n => if n ≤ 1000 then some (.str n) else none
    | none => none
def SlOk (X : Cx) (k1 k : Kd) : Prop := ∃ r, SlR X r ∧ ∀ x lo hi H Q, Den k1 H x → (∀ v H', Same H H' → Den k H' v → Q v H') → r x lo hi H Q
theorem sl_ok {k1 k : Kd} (h : slK k1 = some k) : SlOk X k1 k := by
  unfold slK at h
  split at h
  · rename_i n e h1
    cases h
    refine ⟨_, sl_tupP, fun x lo hi H Q d1 q => ?_⟩
    obtain ⟨a, vs, ts, rfl, a1, a2, a3, a4⟩ := as_tup h1 d1
    obtain ⟨us, u1, u2, u3⟩ := ths_cut a2 lo hi
    refine ⟨a, vs, rfl, a1, fun p H' s hp => q _ H' s ⟨.tup us, .tup hp (IsThs.kp (Kp.of s) u1), ?_⟩⟩
    rw [Shape]
    exact ⟨us, rfl, by omega, by omega⟩
  · split at h
    · rename_i n h1
      split at h
      · rename_i hn
        cases h
        refine ⟨_, sl_str, fun x lo hi H Q d1 q => ?_⟩
        obtain ⟨z, rfl, hz⟩ := as_str h1 d1
        exact ⟨z, rfl, size_ok (by omega), q _ H (Same.refl H) (den_str (Nat.le_trans (Txt.slice_le z _ _) hz) hn)⟩
      · cases h
    · cases h
end
end K08

set_option Elab.async false
set_option linter.all false
set_option maxRecDepth 100000
set_option maxHeartbeats 4000000
namespace K08
open PySem L2
/-! what an expression makes -/
abbrev Gam := List (Str × Nat × Kd)
def feedN : Str := "_law_feed_here"
structure Has where
  nm : Bool
  vl : Bool
  fr : Bool
  ls : Bool
def look (G : Gam) (x : Str) : Option (Nat × Kd) := (G.find? fun p => decide (p.1 = x)).map (·.2)
theorem look_mem {G : Gam} {x : Str} {i : Nat} {k : Kd} (h : look G x = some (i, k)) : (x, i, k) ∈ G := by
  unfold look at h
  cases e : G.find? fun p => decide (p.1 = x) with
  | none => rw [e] at h; cases h
  | some p =>
    rw [e] at h
    have h1 := Option.some.inj h
    have h2 := List.mem_of_find?_eq_some e
    have h3 := List.find?_some e
    have h4 : p.1 = x := of_decide_eq_true h3
    obtain ⟨p1, p2⟩ := p
    simp only at h1 h4
    subst h1 h4
    exact h2
def constK : Const → Option Kd
  | .int i => some (.cst (.int i))
  | .str x => if x.length ≤ 1000 then some (.cst (.str x)) else none
  | .bool b => some (.cst (.bl b))
  | .none => some (.cst .non)
  | _ => none
def partK : Option Expr → Bool
  | none => true
  | some (.Constant (.int _) _ _) => true
  | some (.UnaryOp .USub (.Constant (.int _) _ _) _) => true
  | _ => false
def plainB : Expr → Bool
  | .Constant _ _ _ => true
  | .Name _ _ => true
  | .BinOp _ _ _ _ => true
  | .Call _ _ _ _ => true
  | _ => false
def chks (f : Expr → Option (Kd × Nat)) : List Expr → Option (List Kd × Nat)
  | [] => some ([], 0)
  | e :: es => match f e, chks f es with
    | some (k, c), some (ks, c') => some (k :: ks, c + c')
    | _, _ => none
def drawK (g : Expr → Option (Kd × Nat)) : List Expr → Option (Kd × Nat)
  | [.Name x _, e] => if x = feedN then (match g e with
    | some (k, c) => (match asInt k with
      | some (lo, hi) => if 0 < lo ∧ hi ≤ 18446744073709551616 then some (.rng 0 (hi - 1), c + 1) else none
      | none => none)
    | none => none) else none
  | _ => none
def nameK : List Expr → Option (Kd × Nat)
  | [.Name x _, .List [] _] => if x = feedN then some (.nam, 8) else none
  | _ => none
def oneK (r : Kd × Nat) : List Expr → Option (Kd × Nat)
  | [.Name x _] => if x = feedN then some r else none
  | _ => none
def listK (g : Expr → Option (Kd × Nat)) : List Expr → Option (Kd × Nat)
  | [e] => (match g e with
    | some (k, c) => (match asTup k with
      | some (n, e) => if n ≤ 1000000 then some (.lstN 0 n e, c) else none
      | none => none)
    | none => none)
  | _ => none
def callK (fs : Has) (g : Expr → Option (Kd × Nat)) (f : Str) (args : List Expr) : Option (Kd × Nat) :=
  if f = "_law_draw" then drawK g args
  else if f = "_law_name" ∧ fs.nm = true then nameK args
  else if f = "_law_value" ∧ fs.vl = true then oneK (.rng 0 1000000000, 3) args
  else if f = "_law_far" ∧ fs.fr = true then oneK (.rng 0 (10 ^ 60), 3) args
  else if f = "list" ∧ fs.ls = true then listK g args
  else none
def chk (fs : Has) (G : Gam) : Nat → Expr → Option (Kd × Nat)
  | 0, _ => none
  | n + 1, e => match e with
    | .Constant c _ _ => (constK c).map fun k => (k, 0)
    | .Name x _ => (look G x).map fun p => (p.2, 0)
    | .Tuple es _ _ => (match chks (chk fs G n) es with
      | some (ks, c) => if ks.length ≤ 1000 then some (.tup ks, c) else none
      | none => none)
    | .List es _ => (match chks (chk fs G n) es with
      | some (ks, c) => if ks.length ≤ 1000 then some (.lst ks, c) else none
      | none => none)
    | .UnaryOp op a _ => (match op, chk fs G n a with
      | .USub, some (.cst (.int i), c) => some (.cst (.int (-i)), c)
      | _, _ => none)
    | .BinOp a op b _ => (match chk fs G n a, chk fs G n b with
      | some (k1, c1), some (k2, c2) => (binK op k1 k2).map fun k => (k, c1 + c2)
      | _, _ => none)
    | .Call (.Name f _) args [] _ => callK fs (chk fs G n) f args
    | .Subscript a (.Slice lo hi none _) _ => if partK lo = true ∧ partK hi = true then (match chk fs G n a with
      | some (k, c) => (slK k).map fun k => (k, c)
      | none => none) else none
    | .Subscript a b _ => if plainB b = true then (match chk fs G n a, chk fs G n b with
      | some (k1, c1), some (k2, c2) => (ixK k1 k2).map fun k => (k, c1 + c2)
      | _, _ => none) else none
    | _ => none
theorem chk_star {fs : Has} {G : Gam} {n : Nat} {e : Expr} {r : Kd × Nat} (h : chk fs G n e = some r) (env : Env) (es : List Expr) : starEach (e :: es) env = (false, eval e env) :: starEach es env := by
  cases n with
  | zero => cases h
  | succ n =>
    cases e with
    | Constant _ _ _ => rfl
    | Name _ _ => rfl
    | Tuple _ _ _ => rfl
    | List _ _ => rfl
    | UnaryOp _ _ _ => rfl
    | BinOp _ _ _ _ => rfl
    | Call _ _ _ _ => rfl
    | Subscript _ _ _ => rfl
    | _ => cases h
theorem plain_ix {b : Expr} (h : plainB b = true) : PlainIx b := by
  cases b with
  | Constant _ _ _ => exact fun _ _ => rfl
  | Name _ _ => exact fun _ _ => rfl
  | BinOp _ _ _ _ => exact fun _ _ => rfl
  | Call _ _ _ _ => exact fun _ _ => rfl
  | _ => cases h
structure EnvOk (d : Addr) (G : Gam) (σ : St) (H : Hp) : Prop where
  fd : σ[0]? = some (some (.ref d))
  vs : ∀ p ∈ G, ∃ v, σ[p.2.1]? = some (some v) ∧ Den p.2.2 H v
def lim : Nat := 900000000000
/-- what is made: a thing of this kind, by at most so many draws -/
def TMk (d l : Addr) (ns : List Int) (G : Gam) (k : Kd) (c : Nat) : TE := fun σ H Q => ∃ n, EnvOk d G σ H ∧ Feed H d l ns n ∧ n + c ≤ lim ∧
  ∀ v H' n', n' ≤ n + c → Feed H' d l ns n' → But d H H' → Den k H' v → Q v H'
def TMkA (d l : Addr) (ns : List Int) (G : Gam) (ks : List Kd) (c : Nat) : TA := fun σ H Q => ∃ n, EnvOk d G σ H ∧ Feed H d l ns n ∧ n + c ≤ lim ∧
  ∀ vs H' n', n' ≤ n + c → Feed H' d l ns n' → But d H H' → Dens ks H' vs → Q vs H'
theorem But.kp {d : Addr} {H H' : Hp} {l : Addr} {ns : List Int} {n : Nat} (b : But d H H') (F : Feed H d l ns n) : Kp H H' := by
  obtain ⟨⟨z, hd⟩, _, _⟩ := F
  intro a o e hk
  exact b a o e (fun q => by subst q; rw [hd] at e; cases e; exact hk _ rfl)
theorem EnvOk.but {d l : Addr} {ns : List Int} {n : Nat} {G : Gam} {σ : St} {H H' : Hp} (E : EnvOk d G σ H) (F : Feed H d l ns n) (b : But d H H') : EnvOk d G σ H' :=
  ⟨E.fd, fun p hp => let ⟨v, e, q⟩ := E.vs p hp; ⟨v, e, q.kp (b.kp F)⟩⟩
section
variable {X : Cx} {d l : Addr} {ns : List Int} {G : Gam} {fs : Has}
/-- a function that may be called -/
def Callable (X : Cx) (x : Str) (ps : List Str) (sp : Sp) : Prop := ∃ f fd k, FnOk X.prog X.w X.K X.mg X.base CX0 k f fd ps sp ∧ Room k X.A ∧ Gl X x ∧ X.mg x = some (.ref f) ∧ PySem.W.keepIn X.K (.ref f) = true ∧ Binds X.K fd ps []
def spLawValue : Sp := fun vs H Q _ => ∃ (d l : Addr) (ns : List Int) (n : Nat), vs = [.ref d] ∧ Feed H d l ns n ∧ n + 3 ≤ lim ∧
  ∀ (i : Int) n' H', 0 ≤ i → i < 1000000000 → n' ≤ n + 3 → Feed H' d l ns n' → But d H H' → Q (.int i) H'
def spFar : Sp := fun vs H Q _ => ∃ (d l : Addr) (ns : List Int) (n : Nat), vs = [.ref d] ∧ Feed H d l ns n ∧ n + 3 ≤ lim ∧
  ∀ (i : Int) n' H', 0 ≤ i → i < 10 ^ 60 → n' ≤ n + 3 → Feed H' d l ns n' → But d H H' → Q (.int i) H'
structure MadeCx (X : Cx) (G : Gam) (fs : Has) : Prop where
  draw : Callable X "_law_draw" ["_law_feed_here", "_law_many"] spDraw
  name : fs.nm = true → Callable X "_law_name" ["_law_feed_here", "_law_taken"] spLawName
  val : fs.vl = true → Callable X "_law_value" ["_law_feed_here"] spLawValue
  far : fs.fr = true → Callable X "_law_far" ["_law_feed_here"] spFar
  lst : fs.ls = true → Gl X "list" ∧ X.mg "list" = none
  feed : X.N[0]? = some feedN ∧ Vis X.env.scope feedN
  vars : ∀ p ∈ G, X.N[p.2.1]? = some p.1 ∧ Vis X.env.scope p.1 ∧ (p.1 == ("__debug__" : Str)) = false ∧ (p.1 == ("__classdict__" : Str)) = false
theorem feed_pe {G : Gam} {fs : Has} (C : MadeCx X G fs) {p : Pos} : PE X (.Name feedN p) (tVar 0) := pe_var C.feed.1 C.feed.2 (by decide +kernel) (by decide +kernel)
/-- a value of a constant kind is made -/
theorem mk_val {e : Expr} {v : V} {k : Kd} {t : TE} (h : PE X e t) (i : ∀ σ H Q, Q v H → t σ H Q) (hd : ∀ H, Den k H v) : PE X e (TMk d l ns G k 0) :=
  pe_imp h fun σ H Q ⟨n, E, F, hn, q⟩ => i σ H Q (q v H n (Nat.le_refl _) F (But.refl d H) (hd H))
theorem mk_two {k1 k2 : Kd} {c1 c2 n : Nat} {σ : St} {H : Hp} {R : V → V → Hp → Prop} (E : EnvOk d G σ H) (F : Feed H d l ns n) (hn : n + (c1 + c2) ≤ lim)
    (h : ∀ x y H2 n2, n2 ≤ n + (c1 + c2) → Feed H2 d l ns n2 → But d H H2 → Den k1 H2 x → Den k2 H2 y → R x y H2) :
    TMk d l ns G k1 c1 σ H (fun x H1 => TMk d l ns G k2 c2 σ H1 (fun y H2 => R x y H2)) :=
  ⟨n, E, F, by omega, fun x H1 n1 hn1 F1 b1 d1 => ⟨n1, E.but F b1, F1, by omega, fun y H2 n2 hn2 F2 b2 d2 => h x y H2 n2 (by omega) F2 (b1.trans b2) (d1.kp (b2.kp F1)) d2⟩⟩
theorem mk_bin {a b : Expr} {op : Operator} {pos : Pos} {k1 k2 k : Kd} {c1 c2 : Nat} (ha : PE X a (TMk d l ns G k1 c1)) (hb : PE X b (TMk d l ns G k2 c2)) (h : BinOk X op k1 k2 k) : PE X (.BinOp a op b pos) (TMk d l ns G k (c1 + c2)) := by
  obtain ⟨r, hr, q⟩ := h
  refine pe_imp (pe_op hr ha hb) fun σ H Q ⟨n, E, F, hn, k'⟩ => mk_two E F hn fun x y H2 n2 hn2 F2 b2 d1 d2 => q x y H2 Q d1 d2 fun v H' s dv => k' v H' n2 hn2 (F2.same s) (b2.trans (But.of s)) dv
theorem mk_ix {a b : Expr} {pos : Pos} {k1 k2 k : Kd} {c1 c2 : Nat} (ha : PE X a (TMk d l ns G k1 c1)) (hb : PE X b (TMk d l ns G k2 c2)) (hp : PlainIx b) (h : IxOk X k1 k2 k) : PE X (.Subscript a b pos) (TMk d l ns G k (c1 + c2)) := by
  obtain ⟨r, hr, q⟩ := h
  refine pe_imp (pe_ix hr ha hb hp) fun σ H Q ⟨n, E, F, hn, k'⟩ => mk_two E F hn fun x y H2 n2 hn2 F2 b2 d1 d2 => q x y H2 Q d1 d2 fun v H' s dv => k' v H' n2 hn2 (F2.same s) (b2.trans (But.of s)) dv
theorem po_imp {e : Option Expr} {t t' : TO} (h : PO X e t) (i : ∀ σ H Q, t' σ H Q → t σ H Q) : PO X e t' := fun pins s σ H Q I q => h pins s σ H Q I (i σ H Q q)
theorem part_ok {e : Option Expr} (h : partK e = true) : ∃ o, PO X e (fun _ H Q => Q o H) := by
  unfold partK at h
  split at h
  · exact ⟨none, po_imp po_none fun σ H Q q => q⟩
  · exact ⟨some _, po_imp (po_some pe_int) fun σ H Q q => ⟨_, rfl, q⟩⟩
  · exact ⟨some _, po_imp (po_some (pe_un un_neg pe_int)) fun σ H Q q => ⟨_, rfl, _, rfl, q⟩⟩
  · cases h
theorem mk_sl {a : Expr} {lo hi : Option Expr} {p2 pos : Pos} {k1 k : Kd} {c : Nat} (ha : PE X a (TMk d l ns G k1 c)) (hl : partK lo = true) (hh : partK hi = true) (h : SlOk X k1 k) : PE X (.Subscript a (.Slice lo hi none p2) pos) (TMk d l ns G k c) := by
  obtain ⟨r, hr, q⟩ := h
  obtain ⟨o1, p1⟩ := part_ok (X := X) hl
  obtain ⟨o2, p2'⟩ := part_ok (X := X) hh
  refine pe_imp (pe_slice hr ha p1 p2') fun σ H Q ⟨n, E, F, hn, k'⟩ => ⟨n, E, F, hn, fun x H1 n1 hn1 F1 b1 d1 => ?_⟩
  exact q x o1 o2 H1 Q d1 fun v H' s dv => k' v H' n1 hn1 (F1.same s) (b1.trans (But.of s)) dv
theorem mk_nil : PA X [] (TMkA d l ns G [] 0) := pa_imp pa_nil fun σ H Q ⟨n, E, F, hn, q⟩ => q [] H n (Nat.le_refl _) F (But.refl d H) ⟨[], .nil, by rw [Shapes]⟩
theorem mk_cons {e : Expr} {es : List Expr} {k : Kd} {ks : List Kd} {c1 c2 : Nat} (he : PE X e (TMk d l ns G k c1)) (hr : PA X es (TMkA d l ns G ks c2)) (hs : starEach (e :: es) X.env = (false, eval e X.env) :: starEach es X.env) :
    PA X (e :: es) (TMkA d l ns G (k :: ks) (c1 + c2)) := by
  refine pa_imp (pa_cons he hr hs) fun σ H Q ⟨n, E, F, hn, q⟩ => ⟨n, E, F, by omega, fun x H1 n1 hn1 F1 b1 d1 => ⟨n1, E.but F b1, F1, by omega, fun xs H2 n2 hn2 F2 b2 d2 => ?_⟩⟩
  exact q (x :: xs) H2 n2 (by omega) F2 (b1.trans b2) (Dens.cons (d1.kp (b2.kp F1)) d2)
theorem mk_tup {es : List Expr} {j : Nat} {pos : Pos} {ks : List Kd} {c : Nat} (h : PA X es (TMkA d l ns G ks c)) (hl : ks.length ≤ 1000) : PE X (.Tuple es j pos) (TMk d l ns G (.tup ks) c) := by
  refine pe_imp (pe_tup h) fun σ H Q ⟨n, E, F, hn, q⟩ => ⟨n, E, F, hn, fun xs H1 n1 hn1 F1 b1 d1 => ⟨size_ok (by have := d1.len; omega), fun p hp => ?_⟩⟩
  have s := same_upd (o := .tup xs) hp
  exact q _ _ n1 hn1 (F1.same s) (b1.trans (But.of s)) (den_tup upd_same (d1.kp (Kp.of s)))
theorem mk_lst {es : List Expr} {pos : Pos} {ks : List Kd} {c : Nat} (h : PA X es (TMkA d l ns G ks c)) (hl : ks.length ≤ 1000) : PE X (.List es pos) (TMk d l ns G (.lst ks) c) := by
  refine pe_imp (pe_lst h) fun σ H Q ⟨n, E, F, hn, q⟩ => ⟨n, E, F, hn, fun xs H1 n1 hn1 F1 b1 d1 => ⟨size_ok (by have := d1.len; omega), fun p hp => ?_⟩⟩
  have s := same_upd (o := .lst xs) hp
  exact q _ _ n1 hn1 (F1.same s) (b1.trans (But.of s)) (den_lst upd_same (d1.kp (Kp.of s)))
theorem chks_ok {f : Expr → Option (Kd × Nat)} : ∀ (es : List Expr) {ks : List Kd} {c : Nat}, (∀ e k c, f e = some (k, c) → PE X e (TMk d l ns G k c)) → (∀ e r es, f e = some r → starEach (e :: es) X.env = (false, eval e X.env) :: starEach es X.env) →
    chks f es = some (ks, c) → PA X es (TMkA d l ns G ks c) := by
  intro es
  induction es with
  | nil => intro ks c _ _ h; cases h; exact mk_nil
  | cons e es ih =>
    intro ks c hf hs h
    unfold chks at h
    split at h
    · rename_i k1 c1 ks2 c2 h1 h2
      cases h
      exact mk_cons (hf e k1 c1 h1) (ih hf hs h2) (hs e _ es h1)
    · cases h
theorem back1 {e : Expr} {pos : Pos} {env : Env} (h : starEach [e] env = [(false, eval e env)]) : (backTo pos (starEach [e] env)).any (·.1) = false := by rw [h]; rfl
theorem mk_draw (C : MadeCx X G fs) {p q pos : Pos} {e : Expr} {k : Kd} {c : Nat} {lo hi : Int} (he : PE X e (TMk d l ns G k c)) (hs : starEach [e] X.env = [(false, eval e X.env)]) (hk : asInt k = some (lo, hi)) (h0 : 0 < lo) (h1 : hi ≤ 18446744073709551616) :
    PE X (.Call (.Name "_law_draw" p) [.Name feedN q, e] [] pos) (TMk d l ns G (.rng 0 (hi - 1)) (c + 1)) := by
  obtain ⟨f, fd, kk, hF, hr, hg, hm, hkp, hb⟩ := C.draw
  refine pe_imp (pe_call hF hr hg hm hkp hb .nil pass0 (pa_cons (feed_pe C) (pa_cons he pa_nil hs) rfl) (by decide +kernel) rfl (back1 hs)) fun σ H Q ⟨n, E, F, hn, kq⟩ => ?_
  refine ⟨_, E.fd, n, E, F, by omega, fun x H1 n1 hn1 F1 b1 d1 => ?_⟩
  obtain ⟨i, rfl, i1, i2⟩ := as_int hk d1
  unfold lim at hn
  refine ⟨d, l, ns, n1, i, rfl, F1, by omega, by omega, by omega, fun r n' H' r0 r1 hn' F' B' => ?_⟩
  exact kq (.int r) H' n' (by omega) F' (b1.trans B') (den_rng r0 (by omega))
theorem mk_name (C : MadeCx X G fs) (hf : fs.nm = true) {p q pos pl : Pos} : PE X (.Call (.Name "_law_name" p) [.Name feedN q, .List [] pl] [] pos) (TMk d l ns G .nam 8) := by
  obtain ⟨f, fd, kk, hF, hr, hg, hm, hkp, hb⟩ := C.name hf
  refine pe_imp (pe_call hF hr hg hm hkp hb .nil pass0 (pa_cons (feed_pe C) (pa_cons (pe_lst pa_nil) pa_nil rfl) rfl) (by decide +kernel) rfl rfl) fun σ H Q ⟨n, E, F, hn, kq⟩ => ?_
  refine ⟨_, E.fd, Nat.zero_le _, fun a ha => ?_⟩
  have s := same_upd (o := .lst []) ha
  unfold lim at hn
  refine ⟨d, l, a, ns, n, [], rfl, F.same s, by omega, upd_same, Nat.zero_le _, (fun t ht => by cases ht), fun t n' H' ht _ hw hn' F' B' => ?_⟩
  obtain ⟨⟨t1, t2⟩, t3⟩ := ht
  refine kq (.str t) H' n' hn' F' ((But.of s).trans B') (den_nam ?_ t2)
  unfold isNameB
  have e1 : inV (.str t) wordsV = false := by
    cases z : inV (.str t) wordsV with
    | false => rfl
    | true =>
      have ew : wordsV = words13.map V.str := by decide +kernel
      rw [ew] at z
      exact absurd ((inV_strs t words13).mp z) hw
  have e2 : t.cps.toList.all az = true := by
    rw [List.all_eq_true]
    intro c hc
    have := t3 c hc
    unfold az
    rw [Bool.and_eq_true, decide_eq_true_iff, decide_eq_true_iff]
    exact this
  rw [e1, e2, decide_eq_true t1, decide_eq_true t2]
  rfl
theorem mk_value (C : MadeCx X G fs) (hf : fs.vl = true) {p q pos : Pos} : PE X (.Call (.Name "_law_value" p) [.Name feedN q] [] pos) (TMk d l ns G (.rng 0 1000000000) 3) := by
  obtain ⟨f, fd, kk, hF, hr, hg, hm, hkp, hb⟩ := C.val hf
  refine pe_imp (pe_call hF hr hg hm hkp hb .nil pass0 (pa_cons (feed_pe C) pa_nil rfl) (by decide +kernel) rfl rfl) fun σ H Q ⟨n, E, F, hn, kq⟩ => ?_
  exact ⟨_, E.fd, d, l, ns, n, rfl, F, hn, fun i n' H' i0 i1 hn' F' B' => kq _ H' n' hn' F' B' (den_rng i0 i1)⟩
theorem mk_far (C : MadeCx X G fs) (hf : fs.fr = true) {p q pos : Pos} : PE X (.Call (.Name "_law_far" p) [.Name feedN q] [] pos) (TMk d l ns G (.rng 0 (10 ^ 60)) 3) := by
  obtain ⟨f, fd, kk, hF, hr, hg, hm, hkp, hb⟩ := C.far hf
  refine pe_imp (pe_call hF hr hg hm hkp hb .nil pass0 (pa_cons (feed_pe C) pa_nil rfl) (by decide +kernel) rfl rfl) fun σ H Q ⟨n, E, F, hn, kq⟩ => ?_
  exact ⟨_, E.fd, d, l, ns, n, rfl, F, hn, fun i n' H' i0 i1 hn' F' B' => kq _ H' n' hn' F' B' (den_rng i0 i1)⟩
theorem mk_list (C : MadeCx X G fs) (hf : fs.ls = true) {p pos : Pos} {e : Expr} {k : Kd} {c m z : Nat} (he : PE X e (TMk d l ns G k c)) (hs : starEach [e] X.env = [(false, eval e X.env)]) (hk : asTup k = some (m, z)) (hm : m ≤ 1000000) :
    PE X (.Call (.Name "list" p) [e] [] pos) (TMk d l ns G (.lstN 0 m z) c) := by
  obtain ⟨hg, hmg⟩ := C.lst hf
  refine pe_imp (pe_callTy call_list_of hg hmg (by rfl) (pa_cons he pa_nil hs) (by decide +kernel) (by decide +kernel) hs rfl) fun σ H Q ⟨n, E, F, hn, kq⟩ => ⟨n, E, F, hn, fun x H1 n1 hn1 F1 b1 d1 => ?_⟩
  obtain ⟨a, vs, ts, rfl, a1, a2, a3, a4⟩ := as_tup hk d1
  refine ⟨a, vs, rfl, .inr (SqT.of a1), fun p hp => ?_⟩
  have s := same_upd (o := .lst vs) hp
  refine kq _ _ n1 hn1 (F1.same s) (b1.trans (But.of s)) ⟨.lst ts, .lst upd_same (IsThs.kp (Kp.of s) a2), ?_⟩
  rw [Shape]
  exact ⟨ts, rfl, a3, Nat.zero_le _, a4⟩
end
end K08

set_option Elab.async false
set_option linter.all false
set_option maxRecDepth 100000
set_option maxHeartbeats 4000000
namespace K08
open PySem L2
section
variable {X : Cx} {d l : Addr} {ns : List Int} {G : Gam} {fs : Has}
theorem const_ok {c : Const} {j : Nat} {p : Pos} {k : Kd} (h : constK c = some k) : PE X (.Constant c j p) (TMk d l ns G k 0) := by
  cases c with
  | int i => cases h; exact mk_val pe_int (fun σ H Q q => q) (fun H => den_cst rfl)
  | str x =>
    have h : (if x.length ≤ 1000 then some (Kd.cst (V.str x)) else none) = some k := h
    by_cases hx : x.length ≤ 1000
    · rw [if_pos hx] at h
      cases h
      exact mk_val pe_str (fun σ H Q q => q) (fun H => den_cst (decide_eq_true hx))
    · rw [if_neg hx] at h; cases h
  | bool b => cases h; exact mk_val pe_bl (fun σ H Q q => q) (fun H => den_cst rfl)
  | none => cases h; exact mk_val pe_non (fun σ H Q q => q) (fun H => den_cst rfl)
  | _ => cases h
theorem var_ok (C : MadeCx X G fs) {x : Str} {p : Pos} {i : Nat} {k : Kd} (h : look G x = some (i, k)) : PE X (.Name x p) (TMk d l ns G k 0) := by
  have hm := look_mem h
  obtain ⟨h1, h2, h3, h4⟩ := C.vars _ hm
  refine pe_imp (pe_var h1 h2 h3 h4) fun σ H Q ⟨n, E, F, hn, q⟩ => ?_
  obtain ⟨v, e, dv⟩ := E.vs _ hm
  exact ⟨v, e, q v H n (Nat.le_refl _) F (But.refl d H) dv⟩
theorem call_ok (C : MadeCx X G fs) {g : Expr → Option (Kd × Nat)} (hg : ∀ e k c, g e = some (k, c) → PE X e (TMk d l ns G k c)) (hs : ∀ e r es, g e = some r → starEach (e :: es) X.env = (false, eval e X.env) :: starEach es X.env)
    {f : Str} {args : List Expr} {p pos : Pos} {k : Kd} {c : Nat} (h : callK fs g f args = some (k, c)) : PE X (.Call (.Name f p) args [] pos) (TMk d l ns G k c) := by
  unfold callK at h
  split at h
  · rename_i hf
    subst hf
    unfold drawK at h
    split at h
    · rename_i x q e
      split at h
      · rename_i hx
        subst hx
        split at h
        · rename_i k1 c1 h1
          split at h
          · rename_i lo hi h2
            split at h
            · rename_i hb
              cases h
              exact mk_draw C (hg _ _ _ h1) (hs _ _ [] h1) h2 hb.1 hb.2
            · cases h
          · cases h
        · cases h
      · cases h
    · cases h
  · split at h
    · rename_i hf
      obtain ⟨hf, hn⟩ := hf
      subst hf
      unfold nameK at h
      split at h
      · split at h
        · rename_i hx
          subst hx
          cases h
          exact mk_name C hn
        · cases h
      · cases h
    · split at h
      · rename_i hf
        obtain ⟨hf, hn⟩ := hf
        subst hf
        unfold oneK at h
        split at h
        · split at h
          · rename_i hx
            subst hx
            cases h
            exact mk_value C hn
          · cases h
        · cases h
      · split at h
        · rename_i hf
          obtain ⟨hf, hn⟩ := hf
          subst hf
          unfold oneK at h
          split at h
          · split at h
            · rename_i hx
              subst hx
              cases h
              exact mk_far C hn
            · cases h
          · cases h
        · split at h
          · rename_i hf
            obtain ⟨hf, hn⟩ := hf
            subst hf
            unfold listK at h
            split at h
            · split at h
              · rename_i k1 c1 h1
                split at h
                · rename_i m z h2
                  split at h
                  · rename_i hm
                    cases h
                    exact mk_list C hn (hg _ _ _ h1) (hs _ _ [] h1) h2 hm
                  · cases h
                · cases h
              · cases h
            · cases h
          · cases h
theorem chk_ok (C : MadeCx X G fs) : ∀ (n : Nat) (e : Expr) (k : Kd) (c : Nat), chk fs G n e = some (k, c) → PE X e (TMk d l ns G k c) := by
  intro n
  induction n with
  | zero => intro e k c h; cases h
  | succ n ih =>
    intro e k c h
    have hs : ∀ (e : Expr) (r : Kd × Nat) (es : List Expr), chk fs G n e = some r → starEach (e :: es) X.env = (false, eval e X.env) :: starEach es X.env := fun e r es h => chk_star h X.env es
    unfold chk at h
    split at h
    · rename_i cc j p
      cases h1 : constK cc with
      | none => rw [h1] at h; cases h
      | some k1 => rw [h1] at h; cases h; exact const_ok h1
    · rename_i x p
      cases h1 : look G x with
      | none => rw [h1] at h; cases h
      | some r =>
        obtain ⟨i, k1⟩ := r
        rw [h1] at h; cases h
        exact var_ok C h1
    · split at h
      · rename_i h1
        split at h
        · rename_i hl
          cases h
          exact mk_tup (chks_ok _ ih hs h1) hl
        · cases h
      · cases h
    · split at h
      · rename_i h1
        split at h
        · rename_i hl
          cases h
          exact mk_lst (chks_ok _ ih hs h1) hl
        · cases h
      · cases h
    · split at h
      · rename_i i c1 h1
        cases h
        refine pe_imp (pe_un un_neg (ih _ _ _ h1)) fun σ H Q ⟨n, E, F, hn, q⟩ => ⟨n, E, F, hn, fun x H1 n1 hn1 F1 b1 d1 => ?_⟩
        obtain ⟨j, rfl, j1, j2⟩ := as_int rfl d1
        have : j = i := by omega
        subst this
        exact ⟨j, rfl, q _ H1 n1 hn1 F1 b1 (den_cst rfl)⟩
      · cases h
    · rename_i a op b p
      split at h
      · rename_i k1 c1 k2 c2 h1 h2
        cases h3 : binK op k1 k2 with
        | none => rw [h3] at h; cases h
        | some k3 => rw [h3] at h; cases h; exact mk_bin (ih _ _ _ h1) (ih _ _ _ h2) (bin_ok h3)
      · cases h
    · exact call_ok C ih hs h
    · split at h
      · rename_i hp
        split at h
        · rename_i k1 c1 h1
          cases h3 : slK k1 with
          | none => rw [h3] at h; cases h
          | some k3 => rw [h3] at h; cases h; exact mk_sl (ih _ _ _ h1) hp.1 hp.2 (sl_ok h3)
        · cases h
      · cases h
    · split at h
      · rename_i hp
        split at h
        · rename_i k1 c1 k2 c2 h1 h2
          cases h3 : ixK k1 k2 with
          | none => rw [h3] at h; cases h
          | some k3 => rw [h3] at h; cases h; exact mk_ix (ih _ _ _ h1) (ih _ _ _ h2) (plain_ix hp) (ix_ok h3)
        · cases h
      · cases h
    · cases h
end
mutual
def eqK : Kd → Kd → Bool
  | .cst a, .cst b => decide (a = b)
  | .rng a b, .rng c e => decide (a = c) && decide (b = e)
  | .str a, .str b => decide (a = b)
  | .nam, .nam => true
  | .sgn, .sgn => true
  | .tup a, .tup b => eqKs a b
  | .lst a, .lst b => eqKs a b
  | .one a, .one b => eqKs a b
  | .tupN a b, .tupN c e => decide (a = c) && decide (b = e)
  | .nodN a b, .nodN c e => decide (a = c) && decide (b = e)
  | .lstN a b x, .lstN c e y => decide (a = c) && (decide (b = e) && decide (x = y))
  | .anyN a b, .anyN c e => decide (a = c) && decide (b = e)
  | _, _ => false
def eqKs : List Kd → List Kd → Bool
  | [], [] => true
  | a :: as, b :: bs => eqK a b && eqKs as bs
  | _, _ => false
end
mutual
theorem eqK_eq : ∀ (a b : Kd), eqK a b = true → a = b
  | .cst a, b, h => by cases b <;> simp [eqK] at h <;> simp [h]
  | .rng a c, b, h => by cases b <;> simp [eqK] at h <;> simp [h]
  | .str a, b, h => by cases b <;> simp [eqK] at h <;> simp [h]
  | .nam, b, h => by cases b <;> simp [eqK] at h <;> rfl
  | .sgn, b, h => by cases b <;> simp [eqK] at h <;> rfl
  | .tup a, b, h => by
    cases b with
    | tup c => rw [eqK] at h; rw [eqKs_eq a c h]
    | _ => simp [eqK] at h
  | .lst a, b, h => by
    cases b with
    | lst c => rw [eqK] at h; rw [eqKs_eq a c h]
    | _ => simp [eqK] at h
  | .one a, b, h => by
    cases b with
    | one c => rw [eqK] at h; rw [eqKs_eq a c h]
    | _ => simp [eqK] at h
  | .tupN a c, b, h => by cases b <;> simp [eqK] at h <;> simp [h]
  | .nodN a c, b, h => by cases b <;> simp [eqK] at h <;> simp [h]
  | .lstN a c x, b, h => by cases b <;> simp [eqK] at h <;> simp [h]
  | .anyN a c, b, h => by cases b <;> simp [eqK] at h <;> simp [h]
theorem eqKs_eq : ∀ (a b : List Kd), eqKs a b = true → a = b
  | [], b, h => by
    cases b with
    | nil => rfl
    | cons _ _ => simp [eqKs] at h
  | a :: as, b, h => by
    cases b with
    | nil => simp [eqKs] at h
    | cons c cs =>
      rw [eqKs, Bool.and_eq_true] at h
      rw [eqK_eq a c h.1, eqKs_eq as cs h.2]
end
def chkIs (fs : Has) (G : Gam) (e : Expr) (k : Kd) (c : Nat) : Bool := match chk fs G 12 e with
  | some (k', c') => eqK k' k && decide (c' ≤ c)
  | none => false
def chkLst (fs : Has) (G : Gam) (e : Expr) (m0 m z c : Nat) : Bool := match chk fs G 12 e with
  | some (k', c') => (match asLst k' with
    | some (n0, n, y) => decide (m0 ≤ n0) && (decide (n ≤ m) && (decide (y ≤ z) && decide (c' ≤ c)))
    | none => false)
  | none => false
section
variable {X : Cx} {d l : Addr} {ns : List Int} {G : Gam} {fs : Has}
theorem mk_le {e : Expr} {k : Kd} {c c' : Nat} (h : PE X e (TMk d l ns G k c')) (hc : c' ≤ c) : PE X e (TMk d l ns G k c) :=
  pe_imp h fun σ H Q ⟨n, E, F, hn, q⟩ => ⟨n, E, F, by omega, fun v H' n' hn' => q v H' n' (by omega)⟩
theorem mk_to {e : Expr} {k k' : Kd} {c : Nat} (h : PE X e (TMk d l ns G k c)) (hk : ∀ H v, Den k H v → Den k' H v) : PE X e (TMk d l ns G k' c) :=
  pe_imp h fun σ H Q ⟨n, E, F, hn, q⟩ => ⟨n, E, F, hn, fun v H' n' hn' F' b' dv => q v H' n' hn' F' b' (hk H' v dv)⟩
theorem chk_is (C : MadeCx X G fs) {e : Expr} {k : Kd} {c : Nat} (h : chkIs fs G e k c = true) : PE X e (TMk d l ns G k c) := by
  unfold chkIs at h
  split at h
  · rename_i k' c' h1
    rw [Bool.and_eq_true] at h
    have := eqK_eq _ _ h.1
    subst this
    exact mk_le (chk_ok C 12 e _ c' h1) (of_decide_eq_true h.2)
  · cases h
theorem chk_lst (C : MadeCx X G fs) {e : Expr} {m0 m z c : Nat} (h : chkLst fs G e m0 m z c = true) : PE X e (TMk d l ns G (.lstN m0 m z) c) := by
  unfold chkLst at h
  split at h
  · rename_i k' c' h1
    split at h
    · rename_i n0 n y h2
      rw [Bool.and_eq_true, Bool.and_eq_true, Bool.and_eq_true, decide_eq_true_iff, decide_eq_true_iff, decide_eq_true_iff, decide_eq_true_iff] at h
      refine mk_to (mk_le (chk_ok C 12 e _ c' h1) h.2.2.2) fun H v dv => ?_
      obtain ⟨a, vs, ts, rfl, a1, a2, a3, a4, a5⟩ := of_lstN h2 dv
      exact ⟨.lst ts, .lst a1 a2, by rw [Shape]; exact ⟨ts, rfl, by omega, by omega, by omega⟩⟩
    · cases h
  · cases h
end
end K08

set_option Elab.async false
set_option linter.all false
set_option maxRecDepth 100000
set_option maxHeartbeats 4000000
namespace K08
open PySem L2
def VarsOk (X : Cx) : Gam → Prop
  | [] => True
  | p :: G => (X.N[p.2.1]? = some p.1 ∧ Vis X.env.scope p.1 ∧ (p.1 == ("__debug__" : Str)) = false ∧ (p.1 == ("__classdict__" : Str)) = false) ∧ VarsOk X G
theorem vars_of {X : Cx} : ∀ {G : Gam}, VarsOk X G → ∀ p ∈ G, X.N[p.2.1]? = some p.1 ∧ Vis X.env.scope p.1 ∧ (p.1 == ("__debug__" : Str)) = false ∧ (p.1 == ("__classdict__" : Str)) = false
  | [], _, p, hp => by cases hp
  | q :: G, h, p, hp => by
    rcases List.mem_cons.mp hp with z | z
    · subst z; exact h.1
    · exact vars_of h.2 p z
abbrev has0 : Has := ⟨false, false, false, false⟩
abbrev hasN : Has := ⟨true, true, true, false⟩
section
variable {X : Cx} {G : Gam}
theorem made0 {f : Addr} {fd : FuncData} {k : Nat} (GD : FnOk X.prog X.w X.K X.mg X.base CX0 k f fd ["_law_feed_here", "_law_many"] spDraw) (hr : Room k X.A) (hg : Gl X "_law_draw") (hm : X.mg "_law_draw" = some (.ref f)) (hk : PySem.W.keepIn X.K (.ref f) = true) (hb : Binds X.K fd ["_law_feed_here", "_law_many"] [])
    (hfd : X.N[0]? = some feedN ∧ Vis X.env.scope feedN) (hv : VarsOk X G) : MadeCx X G has0 where
  draw := ⟨f, fd, k, GD, hr, hg, hm, hk, hb⟩
  name := fun h => by cases h
  val := fun h => by cases h
  far := fun h => by cases h
  lst := fun h => by cases h
  feed := hfd
  vars := vars_of hv
end
theorem env0 {d : Addr} {σ : St} {H : Hp} (h : σ[0]? = some (some (.ref d))) : EnvOk d [] σ H := ⟨h, fun p hp => by cases hp⟩
section
variable {P : Program} {w : World} {K : PySem.W.Frag} {mg : Str → Option Value} {base : Heap}
theorem scLawValue : FnScope ["_law_feed_here", "_law_way"] ["_law_feed_here"] (defScope sLawValue) := ⟨rfl, rfl, rfl, by decide +kernel, rfl, by decide +kernel, by decide +kernel⟩
theorem ok_lawvalue {f fD fS : Addr} {fd dD dS : FuncData} (F : Fun K "_law_value" "_law_value" sLawValue f fd) (U : Helpers K mg fD fS dD dS) : FnOk P w K mg base CX0 2 f fd ["_law_feed_here"] spLawValue := by
  have GD : FnOk P w K mg base CX0 1 fD dD ["_law_feed_here", "_law_many"] spDraw := ok_draw U.D U.T
  refine F.ok scLawValue (fun vs H Q E h => ?_) (fun cdv A outer s H vs Q E hr h => ?_)
  · obtain ⟨d, l, ns, n, rfl, _⟩ := h
    rfl
  · obtain ⟨d, l, ns, n, rfl, F0, hn, k⟩ := h
    have hr1 : Room 1 _ := hr.mono (by decide)
    refine' ⟨?tt, ?body, ?fin⟩
    case body =>
      refine' pss_cons ?s1 (pss_cons ?s2 (pss_cons ?s3 (pss_one ?s4)))
      case s1 => exact ps_set (i := 1) scLawValue.nd rfl (Or.inl rfl) (chk_is (d := d) (l := l) (ns := ns) (k := .rng 0 6) (c := 1) (made0 (G := []) GD hr1 (by rfl) U.mD U.D.kp U.bD ⟨rfl, Or.inl rfl⟩ trivial) (by decide +kernel))
      case s2 => exact ps_if (pt_cmpR op_eq (pv 1) pe_int (nomark _)) (pss_one (ps_ret (chk_is (d := d) (l := l) (ns := ns) (k := .rng 999999997 1000000000) (c := 1) (made0 (G := []) GD hr1 (by rfl) U.mD U.D.kp U.bD ⟨rfl, Or.inl rfl⟩ trivial) (by decide +kernel)))) pss_nil
      case s3 => exact ps_if (pt_cmpR op_eq (pv 1) pe_int (nomark _)) (pss_one (ps_ret (chk_is (d := d) (l := l) (ns := ns) (k := .rng 0 1000000000) (c := 2) (made0 (G := []) GD hr1 (by rfl) U.mD U.D.kp U.bD ⟨rfl, Or.inl rfl⟩ trivial) (by decide +kernel)))) pss_nil
      case s4 => exact ps_ret (chk_is (d := d) (l := l) (ns := ns) (k := .rng 0 12) (c := 1) (made0 (G := [("_law_way", 1, .rng 2 6)]) GD hr1 (by rfl) U.mD U.D.kp U.bD ⟨rfl, Or.inl rfl⟩ ⟨⟨rfl, Or.inl rfl, by decide +kernel, by decide +kernel⟩, trivial⟩) (by decide +kernel))
    case fin =>
      refine ⟨n, env0 rfl, F0, by omega, fun v1 H1 n1 hn1 F1 b1 d1 => ?_⟩
      obtain ⟨way, rfl, w0, w1⟩ := as_int rfl d1
      refine ⟨_, rfl, rfl, _, rfl, ite2 (fun g => ?_) (fun g => ?_)⟩
      · refine ⟨n1, env0 rfl, F1, by omega, fun v2 H2 n2 hn2 F2 b2 d2 => ?_⟩
        obtain ⟨i, rfl, i0, i1⟩ := as_int rfl d2
        exact k i n2 H2 (by omega) i1 (by omega) F2 (b1.trans b2)
      · refine ⟨_, rfl, rfl, _, rfl, ite2 (fun g2 => ?_) (fun g2 => ?_)⟩
        · refine ⟨n1, env0 rfl, F1, by omega, fun v2 H2 n2 hn2 F2 b2 d2 => ?_⟩
          obtain ⟨i, rfl, i0, i1⟩ := as_int rfl d2
          exact k i n2 H2 i0 i1 (by omega) F2 (b1.trans b2)
        · have g' : way ≠ 0 := fun z => g (by rw [z]; decide)
          have g2' : way ≠ 1 := fun z => g2 (by rw [z]; decide)
          refine ⟨n1, ⟨rfl, fun p hp => ?_⟩, F1, by omega, fun v2 H2 n2 hn2 F2 b2 d2 => ?_⟩
          · rw [List.mem_singleton] at hp
            subst hp
            exact ⟨_, rfl, den_rng (by omega) (by omega)⟩
          · obtain ⟨i, rfl, i0, i1⟩ := as_int rfl d2
            exact k i n2 H2 i0 (by omega) (by omega) F2 (b1.trans b2)
theorem scFar : FnScope ["_law_feed_here"] ["_law_feed_here"] (defScope sFar) := ⟨rfl, rfl, rfl, by decide +kernel, rfl, by decide +kernel, by decide +kernel⟩
theorem ok_far {f fD fS : Addr} {fd dD dS : FuncData} (F : Fun K "_law_far" "_law_far" sFar f fd) (U : Helpers K mg fD fS dD dS) : FnOk P w K mg base CX0 2 f fd ["_law_feed_here"] spFar := by
  have GD : FnOk P w K mg base CX0 1 fD dD ["_law_feed_here", "_law_many"] spDraw := ok_draw U.D U.T
  refine F.ok scFar (fun vs H Q E h => ?_) (fun cdv A outer s H vs Q E hr h => ?_)
  · obtain ⟨d, l, ns, n, rfl, _⟩ := h
    rfl
  · obtain ⟨d, l, ns, n, rfl, F0, hn, k⟩ := h
    have hr1 : Room 1 _ := hr.mono (by decide)
    refine' ⟨?tt, ?body, ?fin⟩
    case body =>
      refine' pss_cons ?s1 (pss_one ?s2)
      case s1 => exact ps_if (pt_cmpR op_eq (chk_is (d := d) (l := l) (ns := ns) (k := .rng 0 5) (c := 1) (made0 (G := []) GD hr1 (by rfl) U.mD U.D.kp U.bD ⟨rfl, Or.inl rfl⟩ trivial) (by decide +kernel)) pe_int (nomark _)) (pss_one (ps_ret (chk_is (d := d) (l := l) (ns := ns) (k := .rng 0 (999999 * 10 ^ 53 + 1 + 999999)) (c := 2) (made0 (G := []) GD hr1 (by rfl) U.mD U.D.kp U.bD ⟨rfl, Or.inl rfl⟩ trivial) (by decide +kernel)))) pss_nil
      case s2 => exact ps_ret (chk_is (d := d) (l := l) (ns := ns) (k := .rng 0 4) (c := 1) (made0 (G := []) GD hr1 (by rfl) U.mD U.D.kp U.bD ⟨rfl, Or.inl rfl⟩ trivial) (by decide +kernel))
    case fin =>
      refine ⟨n, env0 rfl, F0, by omega, fun v1 H1 n1 hn1 F1 b1 d1 => ?_⟩
      obtain ⟨way, rfl, w0, w1⟩ := as_int rfl d1
      refine ⟨rfl, _, rfl, ite2 (fun g => ?_) (fun g => ?_)⟩
      · refine ⟨n1, env0 rfl, F1, by omega, fun v2 H2 n2 hn2 F2 b2 d2 => ?_⟩
        obtain ⟨i, rfl, i0, i1⟩ := as_int rfl d2
        exact k i n2 H2 (by omega) (by omega) (by omega) F2 (b1.trans b2)
      · refine ⟨n1, env0 rfl, F1, by omega, fun v2 H2 n2 hn2 F2 b2 d2 => ?_⟩
        obtain ⟨i, rfl, i0, i1⟩ := as_int rfl d2
        exact k i n2 H2 (by omega) (by omega) (by omega) F2 (b1.trans b2)
end
end K08

set_option Elab.async false
set_option linter.all false
set_option maxRecDepth 100000
set_option maxHeartbeats 4000000
namespace K08
open PySem L2
abbrev hasO : Has := ⟨true, false, false, true⟩
section
variable {X : Cx} {G : Gam}
theorem madeO {f f2 : Addr} {fd fd2 : FuncData} {k k2 : Nat} (GD : FnOk X.prog X.w X.K X.mg X.base CX0 k f fd ["_law_feed_here", "_law_many"] spDraw) (hr : Room k X.A) (hg : Gl X "_law_draw") (hm : X.mg "_law_draw" = some (.ref f)) (hk : PySem.W.keepIn X.K (.ref f) = true) (hb : Binds X.K fd ["_law_feed_here", "_law_many"] [])
    (GN : FnOk X.prog X.w X.K X.mg X.base CX0 k2 f2 fd2 ["_law_feed_here", "_law_taken"] spLawName) (hr2 : Room k2 X.A) (hg2 : Gl X "_law_name") (hm2 : X.mg "_law_name" = some (.ref f2)) (hk2 : PySem.W.keepIn X.K (.ref f2) = true) (hb2 : Binds X.K fd2 ["_law_feed_here", "_law_taken"] [])
    (hl : Gl X "list" ∧ X.mg "list" = none) (hfd : X.N[0]? = some feedN ∧ Vis X.env.scope feedN) (hv : VarsOk X G) : MadeCx X G hasO where
  draw := ⟨f, fd, k, GD, hr, hg, hm, hk, hb⟩
  name := fun _ => ⟨f2, fd2, k2, GN, hr2, hg2, hm2, hk2, hb2⟩
  val := fun h => by cases h
  far := fun h => by cases h
  lst := fun _ => hl
  feed := hfd
  vars := vars_of hv
end
def spOdd : Sp := fun vs H Q _ => ∃ (d l : Addr) (ns : List Int) (n : Nat) (v : V) (u : Th) (ts : List Th), vs = [.ref d, v] ∧ Feed H d l ns n ∧ n + 40 ≤ lim ∧ IsTh H v (.tup (u :: ts)) ∧ szs (u :: ts) ≤ 30000 ∧ dps (u :: ts) ≤ 10 ∧
  ∀ (v' : V) (t' : Th) n' H', IsTh H' v' t' → Th.sz t' ≤ 500000 → Th.dp t' ≤ 12 → n' ≤ n + 40 → Feed H' d l ns n' → But d H H' → Q v' H'
abbrev oneKd : Kd := .tup [.cst (.str "num"), .cst (.int 1)]
abbrev GE : Gam := [("_law_e", 1, .nodN 30000 10)]
abbrev GO : Gam := [("_law_e", 1, .nodN 30000 10), ("_law_one", 2, oneKd)]
abbrev GW : Gam := [("_law_e", 1, .nodN 30000 10), ("_law_one", 2, oneKd), ("_law_word", 3, .nam)]
abbrev GS (a b : Nat) : Gam := [("_law_e", 1, .nodN 30000 10), ("_law_one", 2, oneKd), ("_law_word", 3, .nam), ("_law_some", 4, .lstN a b 12)]
theorem env_cons {d : Addr} {G : Gam} {σ : St} {H : Hp} {x : Str} {i : Nat} {k : Kd} {v : V} (E : EnvOk d G σ H) (e : σ[i]? = some (some v)) (dv : Den k H v) : EnvOk d ((x, i, k) :: G) σ H :=
  ⟨E.fd, fun p hp => by
    rcases List.mem_cons.mp hp with z | z
    · subst z; exact ⟨v, e, dv⟩
    · exact E.vs p z⟩
/-- between two statements -/
def MidO (d l : Addr) (ns : List Int) (v : V) (H : Hp) (n a b c : Nat) : St → Hp → Prop := fun σ' H' => ∃ v1 v2 vs n', σ' = [some (.ref d), some v, some v1, some v2, some vs] ∧ n' ≤ n + c ∧ Feed H' d l ns n' ∧ But d H H' ∧ Den (.nodN 30000 10) H' v ∧ Den oneKd H' v1 ∧ Den .nam H' v2 ∧ Den (.lstN a b 12) H' vs
theorem odd_step {d l : Addr} {ns : List Int} {v : V} {H H1 : Hp} {n a b c a' b' c' : Nat} {D : Ends} {σ : St} (h : MidO d l ns v H n a b c σ H1) (hc : n + (c + c') ≤ lim) :
    tAsg (TMk d l ns (GS a b) (.lstN a' b' 12) c') (gName 4) { D with nx := MidO d l ns v H n a' b' (c + c') } σ H1 := by
  obtain ⟨v1, v2, vs, n1, rfl, hn1, F1, b1, d0, d1, d2, d3⟩ := h
  refine ⟨n1, env_cons (env_cons (env_cons (env_cons (env0 rfl) rfl d3) rfl d2) rfl d1) rfl d0, F1, by omega, fun v3 H2 n2 hn2 F2 b2 d4 => ?_⟩
  exact ⟨v1, v2, v3, n2, rfl, by omega, F2, b1.trans b2, d0.kp (b2.kp F1), d1.kp (b2.kp F1), d2.kp (b2.kp F1), d4⟩
theorem szs_mem : ∀ (us : List Th) {i : Nat} {t : Th}, us[i]? = some t → Th.sz t ≤ szs us := by
  intro us
  induction us with
  | nil => intro i t e; simp at e
  | cons u us ih =>
    intro i t e
    cases i with
    | zero => simp at e; subst e; simp only [szs]; omega
    | succ i => simp at e; have := ih e; simp only [szs]; omega
section
variable {P : Program} {w : World} {K : PySem.W.Frag} {mg : Str → Option Value} {base : Heap}
theorem scOdd : FnScope ["_law_feed_here", "_law_e", "_law_one", "_law_word", "_law_some"] ["_law_feed_here", "_law_e"] (defScope sOdd) := ⟨rfl, rfl, rfl, by decide +kernel, rfl, by decide +kernel, by decide +kernel⟩
theorem ok_odd {f fD fS fN : Addr} {fd dD dS dN : FuncData} (F : Fun K "_law_odd" "_law_odd" sOdd f fd) (U : Helpers K mg fD fS dD dS) (FN : Fun K "_law_name" "_law_name" sLawName fN dN) (bN : Binds K dN ["_law_feed_here", "_law_taken"] []) (mN : mg "_law_name" = some (.ref fN)) :
    FnOk P w K mg base CX0 3 f fd ["_law_feed_here", "_law_e"] spOdd := by
  have GD : FnOk P w K mg base CX0 1 fD dD ["_law_feed_here", "_law_many"] spDraw := ok_draw U.D U.T
  have GN : FnOk P w K mg base CX0 2 fN dN ["_law_feed_here", "_law_taken"] spLawName := ok_lawname FN U
  refine F.ok scOdd (fun vs H Q E h => ?_) (fun cdv A outer s H vs Q E hr h => ?_)
  · obtain ⟨d, l, ns, n, v, u, ts, rfl, _⟩ := h
    rfl
  · obtain ⟨d, l, ns, n, v, u, ts, rfl, F0, hn, hv, hz, hdp, k⟩ := h
    have hr1 : Room 1 _ := hr.mono (by decide)
    refine' ⟨?tt, ?body, ?fin⟩
    case body =>
      refine' pss_cons ?t1 (pss_cons ?t2 (pss_cut ?l0 (pss_cut ?l1 (pss_cut ?l2 (pss_cut ?l3 (pss_cut ?l4 (pss_cut ?l5 (pss_cut ?l6 (pss_cut ?l7 (pss_cut ?l8 (pss_cut ?l9 (pss_cut ?l10 (pss_cut ?l11 (pss_cut ?l12 (pss_one ?ret)))))))))))))))
      case t1 => exact ps_set (i := 2) scOdd.nd rfl (Or.inl rfl) (chk_is (d := d) (l := l) (ns := ns) (k := oneKd) (c := 0) (madeO (G := GE) GD hr1 (by rfl) U.mD U.D.kp U.bD GN hr (by rfl) mN FN.kp bN ⟨by rfl, U.T.list⟩ ⟨rfl, Or.inl rfl⟩ ⟨⟨rfl, Or.inl rfl, by decide +kernel, by decide +kernel⟩, trivial⟩) (by decide +kernel))
      case t2 => exact ps_set (i := 3) scOdd.nd rfl (Or.inl rfl) (chk_is (d := d) (l := l) (ns := ns) (k := .nam) (c := 8) (madeO (G := GO) GD hr1 (by rfl) U.mD U.D.kp U.bD GN hr (by rfl) mN FN.kp bN ⟨by rfl, U.T.list⟩ ⟨rfl, Or.inl rfl⟩ ⟨⟨rfl, Or.inl rfl, by decide +kernel, by decide +kernel⟩, ⟨⟨rfl, Or.inl rfl, by decide +kernel, by decide +kernel⟩, trivial⟩⟩) (by decide +kernel))
      case l0 => exact ps_set (i := 4) scOdd.nd rfl (Or.inl rfl) (chk_lst (d := d) (l := l) (ns := ns) (m0 := 12) (m := 180016) (z := 12) (c := 0) (madeO (G := GW) GD hr1 (by rfl) U.mD U.D.kp U.bD GN hr (by rfl) mN FN.kp bN ⟨by rfl, U.T.list⟩ ⟨rfl, Or.inl rfl⟩ ⟨⟨rfl, Or.inl rfl, by decide +kernel, by decide +kernel⟩, ⟨⟨rfl, Or.inl rfl, by decide +kernel, by decide +kernel⟩, ⟨⟨rfl, Or.inl rfl, by decide +kernel, by decide +kernel⟩, trivial⟩⟩⟩) (by decide +kernel))
      case l1 => exact ps_set (i := 4) scOdd.nd rfl (Or.inl rfl) (chk_lst (d := d) (l := l) (ns := ns) (m0 := 18) (m := 300030) (z := 12) (c := 0) (madeO (G := (GS 12 180016)) GD hr1 (by rfl) U.mD U.D.kp U.bD GN hr (by rfl) mN FN.kp bN ⟨by rfl, U.T.list⟩ ⟨rfl, Or.inl rfl⟩ ⟨⟨rfl, Or.inl rfl, by decide +kernel, by decide +kernel⟩, ⟨⟨rfl, Or.inl rfl, by decide +kernel, by decide +kernel⟩, ⟨⟨rfl, Or.inl rfl, by decide +kernel, by decide +kernel⟩, ⟨⟨rfl, Or.inl rfl, by decide +kernel, by decide +kernel⟩, trivial⟩⟩⟩⟩) (by decide +kernel))
      case l2 => exact ps_set (i := 4) scOdd.nd rfl (Or.inl rfl) (chk_lst (d := d) (l := l) (ns := ns) (m0 := 25) (m := 300055) (z := 12) (c := 0) (madeO (G := (GS 18 300030)) GD hr1 (by rfl) U.mD U.D.kp U.bD GN hr (by rfl) mN FN.kp bN ⟨by rfl, U.T.list⟩ ⟨rfl, Or.inl rfl⟩ ⟨⟨rfl, Or.inl rfl, by decide +kernel, by decide +kernel⟩, ⟨⟨rfl, Or.inl rfl, by decide +kernel, by decide +kernel⟩, ⟨⟨rfl, Or.inl rfl, by decide +kernel, by decide +kernel⟩, ⟨⟨rfl, Or.inl rfl, by decide +kernel, by decide +kernel⟩, trivial⟩⟩⟩⟩) (by decide +kernel))
      case l3 => exact ps_set (i := 4) scOdd.nd rfl (Or.inl rfl) (chk_lst (d := d) (l := l) (ns := ns) (m0 := 29) (m := 300083) (z := 12) (c := 1) (madeO (G := (GS 25 300055)) GD hr1 (by rfl) U.mD U.D.kp U.bD GN hr (by rfl) mN FN.kp bN ⟨by rfl, U.T.list⟩ ⟨rfl, Or.inl rfl⟩ ⟨⟨rfl, Or.inl rfl, by decide +kernel, by decide +kernel⟩, ⟨⟨rfl, Or.inl rfl, by decide +kernel, by decide +kernel⟩, ⟨⟨rfl, Or.inl rfl, by decide +kernel, by decide +kernel⟩, ⟨⟨rfl, Or.inl rfl, by decide +kernel, by decide +kernel⟩, trivial⟩⟩⟩⟩) (by decide +kernel))
      case l4 => exact ps_set (i := 4) scOdd.nd rfl (Or.inl rfl) (chk_lst (d := d) (l := l) (ns := ns) (m0 := 36) (m := 300106) (z := 12) (c := 0) (madeO (G := (GS 29 300083)) GD hr1 (by rfl) U.mD U.D.kp U.bD GN hr (by rfl) mN FN.kp bN ⟨by rfl, U.T.list⟩ ⟨rfl, Or.inl rfl⟩ ⟨⟨rfl, Or.inl rfl, by decide +kernel, by decide +kernel⟩, ⟨⟨rfl, Or.inl rfl, by decide +kernel, by decide +kernel⟩, ⟨⟨rfl, Or.inl rfl, by decide +kernel, by decide +kernel⟩, ⟨⟨rfl, Or.inl rfl, by decide +kernel, by decide +kernel⟩, trivial⟩⟩⟩⟩) (by decide +kernel))
      case l5 => exact ps_set (i := 4) scOdd.nd rfl (Or.inl rfl) (chk_lst (d := d) (l := l) (ns := ns) (m0 := 38) (m := 300117) (z := 12) (c := 1) (madeO (G := (GS 36 300106)) GD hr1 (by rfl) U.mD U.D.kp U.bD GN hr (by rfl) mN FN.kp bN ⟨by rfl, U.T.list⟩ ⟨rfl, Or.inl rfl⟩ ⟨⟨rfl, Or.inl rfl, by decide +kernel, by decide +kernel⟩, ⟨⟨rfl, Or.inl rfl, by decide +kernel, by decide +kernel⟩, ⟨⟨rfl, Or.inl rfl, by decide +kernel, by decide +kernel⟩, ⟨⟨rfl, Or.inl rfl, by decide +kernel, by decide +kernel⟩, trivial⟩⟩⟩⟩) (by decide +kernel))
      case l6 => exact ps_set (i := 4) scOdd.nd rfl (Or.inl rfl) (chk_lst (d := d) (l := l) (ns := ns) (m0 := 42) (m := 300130) (z := 12) (c := 0) (madeO (G := (GS 38 300117)) GD hr1 (by rfl) U.mD U.D.kp U.bD GN hr (by rfl) mN FN.kp bN ⟨by rfl, U.T.list⟩ ⟨rfl, Or.inl rfl⟩ ⟨⟨rfl, Or.inl rfl, by decide +kernel, by decide +kernel⟩, ⟨⟨rfl, Or.inl rfl, by decide +kernel, by decide +kernel⟩, ⟨⟨rfl, Or.inl rfl, by decide +kernel, by decide +kernel⟩, ⟨⟨rfl, Or.inl rfl, by decide +kernel, by decide +kernel⟩, trivial⟩⟩⟩⟩) (by decide +kernel))
      case l7 => exact ps_set (i := 4) scOdd.nd rfl (Or.inl rfl) (chk_lst (d := d) (l := l) (ns := ns) (m0 := 47) (m := 360158) (z := 12) (c := 0) (madeO (G := (GS 42 300130)) GD hr1 (by rfl) U.mD U.D.kp U.bD GN hr (by rfl) mN FN.kp bN ⟨by rfl, U.T.list⟩ ⟨rfl, Or.inl rfl⟩ ⟨⟨rfl, Or.inl rfl, by decide +kernel, by decide +kernel⟩, ⟨⟨rfl, Or.inl rfl, by decide +kernel, by decide +kernel⟩, ⟨⟨rfl, Or.inl rfl, by decide +kernel, by decide +kernel⟩, ⟨⟨rfl, Or.inl rfl, by decide +kernel, by decide +kernel⟩, trivial⟩⟩⟩⟩) (by decide +kernel))
      case l8 => exact ps_set (i := 4) scOdd.nd rfl (Or.inl rfl) (chk_lst (d := d) (l := l) (ns := ns) (m0 := 52) (m := 360192) (z := 12) (c := 0) (madeO (G := (GS 47 360158)) GD hr1 (by rfl) U.mD U.D.kp U.bD GN hr (by rfl) mN FN.kp bN ⟨by rfl, U.T.list⟩ ⟨rfl, Or.inl rfl⟩ ⟨⟨rfl, Or.inl rfl, by decide +kernel, by decide +kernel⟩, ⟨⟨rfl, Or.inl rfl, by decide +kernel, by decide +kernel⟩, ⟨⟨rfl, Or.inl rfl, by decide +kernel, by decide +kernel⟩, ⟨⟨rfl, Or.inl rfl, by decide +kernel, by decide +kernel⟩, trivial⟩⟩⟩⟩) (by decide +kernel))
      case l9 => exact ps_set (i := 4) scOdd.nd rfl (Or.inl rfl) (chk_lst (d := d) (l := l) (ns := ns) (m0 := 57) (m := 360250) (z := 12) (c := 0) (madeO (G := (GS 52 360192)) GD hr1 (by rfl) U.mD U.D.kp U.bD GN hr (by rfl) mN FN.kp bN ⟨by rfl, U.T.list⟩ ⟨rfl, Or.inl rfl⟩ ⟨⟨rfl, Or.inl rfl, by decide +kernel, by decide +kernel⟩, ⟨⟨rfl, Or.inl rfl, by decide +kernel, by decide +kernel⟩, ⟨⟨rfl, Or.inl rfl, by decide +kernel, by decide +kernel⟩, ⟨⟨rfl, Or.inl rfl, by decide +kernel, by decide +kernel⟩, trivial⟩⟩⟩⟩) (by decide +kernel))
      case l10 => exact ps_set (i := 4) scOdd.nd rfl (Or.inl rfl) (chk_lst (d := d) (l := l) (ns := ns) (m0 := 63) (m := 420278) (z := 12) (c := 0) (madeO (G := (GS 57 360250)) GD hr1 (by rfl) U.mD U.D.kp U.bD GN hr (by rfl) mN FN.kp bN ⟨by rfl, U.T.list⟩ ⟨rfl, Or.inl rfl⟩ ⟨⟨rfl, Or.inl rfl, by decide +kernel, by decide +kernel⟩, ⟨⟨rfl, Or.inl rfl, by decide +kernel, by decide +kernel⟩, ⟨⟨rfl, Or.inl rfl, by decide +kernel, by decide +kernel⟩, ⟨⟨rfl, Or.inl rfl, by decide +kernel, by decide +kernel⟩, trivial⟩⟩⟩⟩) (by decide +kernel))
      case l11 => exact ps_set (i := 4) scOdd.nd rfl (Or.inl rfl) (chk_lst (d := d) (l := l) (ns := ns) (m0 := 68) (m := 480303) (z := 12) (c := 0) (madeO (G := (GS 63 420278)) GD hr1 (by rfl) U.mD U.D.kp U.bD GN hr (by rfl) mN FN.kp bN ⟨by rfl, U.T.list⟩ ⟨rfl, Or.inl rfl⟩ ⟨⟨rfl, Or.inl rfl, by decide +kernel, by decide +kernel⟩, ⟨⟨rfl, Or.inl rfl, by decide +kernel, by decide +kernel⟩, ⟨⟨rfl, Or.inl rfl, by decide +kernel, by decide +kernel⟩, ⟨⟨rfl, Or.inl rfl, by decide +kernel, by decide +kernel⟩, trivial⟩⟩⟩⟩) (by decide +kernel))
      case l12 => exact ps_set (i := 4) scOdd.nd rfl (Or.inl rfl) (chk_lst (d := d) (l := l) (ns := ns) (m0 := 73) (m := 480344) (z := 12) (c := 0) (madeO (G := (GS 68 480303)) GD hr1 (by rfl) U.mD U.D.kp U.bD GN hr (by rfl) mN FN.kp bN ⟨by rfl, U.T.list⟩ ⟨rfl, Or.inl rfl⟩ ⟨⟨rfl, Or.inl rfl, by decide +kernel, by decide +kernel⟩, ⟨⟨rfl, Or.inl rfl, by decide +kernel, by decide +kernel⟩, ⟨⟨rfl, Or.inl rfl, by decide +kernel, by decide +kernel⟩, ⟨⟨rfl, Or.inl rfl, by decide +kernel, by decide +kernel⟩, trivial⟩⟩⟩⟩) (by decide +kernel))
      case ret => exact ps_ret (pe_ix ix_list (pv 4) (pe_call GD hr1 (by rfl) U.mD U.D.kp U.bD .nil pass0 (pa_n (pv 0) (pa_c (pe_callB call_len_seq (by rfl) U.T.len PySem.boot_len (pa_n (pv 4) pa_nil)) pa_nil))) (fun _ _ => rfl))
    case fin =>
      have De : Den (.nodN 30000 10) H v := ⟨_, hv, by rw [Shape]; exact ⟨u, ts, rfl, hz, hdp⟩⟩
      refine ⟨n, env_cons (env0 rfl) rfl De, F0, by omega, fun v1 H1 n1 hn1 F1 b1 D1 => ?_⟩
      have De1 := De.kp (b1.kp F0)
      refine ⟨n1, env_cons (env_cons (env0 rfl) rfl D1) rfl De1, F1, by omega, fun v2 H2 n2 hn2 F2 b2' D2 => ?_⟩
      have De2 := De1.kp (b2'.kp F1)
      have D12 := D1.kp (b2'.kp F1)
      have b2 := b1.trans b2'
      refine ⟨MidO d l ns v H n 12 180016 8, ?_, ?_⟩
      · refine ⟨n2, env_cons (env_cons (env_cons (env0 rfl) rfl D2) rfl D12) rfl De2, F2, by omega, fun v3 H3 n3 hn3 F3 b3 D3 => ?_⟩
        exact ⟨v1, v2, v3, n3, rfl, by omega, F3, b2.trans b3, De2.kp (b3.kp F2), D12.kp (b3.kp F2), D2.kp (b3.kp F2), D3⟩
      clear D1 D2 D12 De1 De2 b2 b2' b1 F1 F2 hn1 hn2
      intro σ1 H1 h1
      refine ⟨MidO d l ns v H n 18 300030 (8 + 0), odd_step h1 (by omega), ?_⟩
      clear h1
      intro σ1 H1 h1
      refine ⟨MidO d l ns v H n 25 300055 ((8 + 0) + 0), odd_step h1 (by omega), ?_⟩
      clear h1
      intro σ1 H1 h1
      refine ⟨MidO d l ns v H n 29 300083 (((8 + 0) + 0) + 1), odd_step h1 (by omega), ?_⟩
      clear h1
      intro σ1 H1 h1
      refine ⟨MidO d l ns v H n 36 300106 ((((8 + 0) + 0) + 1) + 0), odd_step h1 (by omega), ?_⟩
      clear h1
      intro σ1 H1 h1
      refine ⟨MidO d l ns v H n 38 300117 (((((8 + 0) + 0) + 1) + 0) + 1), odd_step h1 (by omega), ?_⟩
      clear h1
      intro σ1 H1 h1
      refine ⟨MidO d l ns v H n 42 300130 ((((((8 + 0) + 0) + 1) + 0) + 1) + 0), odd_step h1 (by omega), ?_⟩
      clear h1
      intro σ1 H1 h1
      refine ⟨MidO d l ns v H n 47 360158 (((((((8 + 0) + 0) + 1) + 0) + 1) + 0) + 0), odd_step h1 (by omega), ?_⟩
      clear h1
      intro σ1 H1 h1
      refine ⟨MidO d l ns v H n 52 360192 ((((((((8 + 0) + 0) + 1) + 0) + 1) + 0) + 0) + 0), odd_step h1 (by omega), ?_⟩
      clear h1
      intro σ1 H1 h1
      refine ⟨MidO d l ns v H n 57 360250 (((((((((8 + 0) + 0) + 1) + 0) + 1) + 0) + 0) + 0) + 0), odd_step h1 (by omega), ?_⟩
      clear h1
      intro σ1 H1 h1
      refine ⟨MidO d l ns v H n 63 420278 ((((((((((8 + 0) + 0) + 1) + 0) + 1) + 0) + 0) + 0) + 0) + 0), odd_step h1 (by omega), ?_⟩
      clear h1
      intro σ1 H1 h1
      refine ⟨MidO d l ns v H n 68 480303 (((((((((((8 + 0) + 0) + 1) + 0) + 1) + 0) + 0) + 0) + 0) + 0) + 0), odd_step h1 (by omega), ?_⟩
      clear h1
      intro σ1 H1 h1
      refine ⟨MidO d l ns v H n 73 480344 ((((((((((((8 + 0) + 0) + 1) + 0) + 1) + 0) + 0) + 0) + 0) + 0) + 0) + 0), odd_step h1 (by omega), ?_⟩
      clear h1
      intro σ1 H1 h1
      obtain ⟨w1, w2, vs, n15, rfl, hn15, F15, b15, E0, E1, E2, DS15⟩ := h1
      obtain ⟨a, ws, us, rfl, a1, a2, a3, a4, a5⟩ := of_lstN rfl DS15
      have la := IsThs.len _ a2
      have lb := szs_len us
      unfold lim at hn
      refine ⟨_, rfl, _, rfl, _, rfl, a, ws, rfl, .inl (SqL.of a1), d, l, ns, n15, _, rfl, F15, by omega, (by show (0 : Int) < (ws.length : Int); omega), (by show (ws.length : Int) < 18446744073709551616; omega), fun r n' H' r0 r1 hn' F' B' => ?_⟩
      obtain ⟨z, hd⟩ := F15.dc
      have L' : H' a = some (.lst ws) := B'.lst hd a1
      have T' := IsThs.kp (B'.kp F15) a2
      obtain ⟨x, hx, hat⟩ := at_in (xs := ws) (i := r) r0 r1
      obtain ⟨i, hi⟩ := List.getElem?_of_mem hx
      obtain ⟨t', e1, e2⟩ := ths_get _ T' hi
      refine ⟨a, ws, r, x, rfl, rfl, SqL.of L', hat, k x t' n' H' e2 ?_ ?_ (by omega) F' (b15.trans B')⟩
      · have := szs_mem us e1
        omega
      · have := dps_mem us e1
        omega
end
end K08

set_option Elab.async false
set_option linter.all false
set_option maxRecDepth 100000
set_option maxHeartbeats 4000000
namespace K08
open PySem L2
theorem cut1q (x : V) (xs : List V) : cutV (x :: xs) (some 1) none = xs := by
  have e1 : HT.sIx (x :: xs).length 0 (some 1) = min 1 (x :: xs).length := rfl
  have e2 : HT.sIx (x :: xs).length (x :: xs).length none = (x :: xs).length := rfl
  unfold cutV
  rw [e1, e2, List.length_cons]
  have e3 : min 1 (xs.length + 1) = 1 := by omega
  rw [e3]
  show List.take (xs.length + 1 - 1) xs = xs
  exact List.take_of_length_le (by omega)
theorem same_none {H H' : Hp} {p : Addr} (s : Same H H') (h : H' p = none) : H p = none := by
  cases e : H p with
  | none => rfl
  | some o => rw [s p o e] at h; cases h
/-- a tuple, not empty, its first thing no tuple, whose parts are such again, so deep at most -/
def DpT : Nat → Th → Prop
  | 0, _ => False
  | n + 1, t => ∃ u ts, t = .tup (u :: ts) ∧ isTup u = false ∧ ∀ x ∈ ts, isTup x = true → DpT n x
def spLawParts : Sp := fun vs H Q _ => ∃ (v : V) (u : Th) (ts : List Th), vs = [v] ∧ IsTh H v (.tup (u :: ts)) ∧ ts.length ≤ 1000000 ∧
  ∀ (p : Addr) (ws : List V) H', Same H H' → H p = none → H' p = some (.lst ws) → IsThs H ws (ts.filter isTup) → Q (.ref p) H'
def spNodes (N : Nat) : Sp := fun vs H Q _ => ∃ (v : V) (t : Th), vs = [v] ∧ IsTh H v t ∧ DpT N t ∧ Th.sz t ≤ 1000000 ∧ ∀ (m : Int) H', 1 ≤ m → m ≤ Th.sz t → Same H H' → Q (.int m) H'
section
variable {P : Program} {w : World} {K : PySem.W.Frag} {mg : Str → Option Value} {base : Heap}
theorem scLawParts : FnScope ["_law_e"] ["_law_e"] (defScope sLawParts) := ⟨rfl, rfl, rfl, by decide +kernel, rfl, by decide +kernel, by decide +kernel⟩
theorem ok_lawparts {f : Addr} {fd : FuncData} (F : Fun K "_law_parts" "_law_parts" sLawParts f fd) (T : TxtT mg) (KI : Kits K) : FnOk P w K mg base CX0 1 f fd ["_law_e"] spLawParts := by
  refine F.ok scLawParts (fun vs H Q E h => ?_) (fun cdv A outer s H vs Q E hr h => ?_)
  · obtain ⟨v, u, ts, rfl, _⟩ := h
    rfl
  · obtain ⟨v, u, ts, rfl, hv, hz, k⟩ := h
    refine ⟨_, pss_one (ps_ret (pe_comp (N' := ["_law_part"]) (src := [none]) rfl (compScope_of (defScope sLawParts) rfl ["_law_e"] rfl (by decide +kernel)) (pi_tup (pe_slice sl_tupP (pv 0) (po_some pe_int) po_none))
      (fun cl C ex s0 H0 => ⟨pg_name (i := 0) (nd1 _) rfl (Or.inl rfl), pts_one (pt_val (pe_callB (id := "isinstance") (call_isinstK (K := K) rfl) (by rfl) T.isi (by decide +kernel) (pa_n (pv 0) (pa_n (pe_bltn (v := .ty "tuple") (by rfl) T.tup (by decide +kernel) rfl) pa_nil)))), pv 0⟩))), ?_⟩
    obtain ⟨a, vs, rfl, a1, a2⟩ := th_tup hv
    cases a2 with
    | @cons x xs _ _ c1 c2 =>
      refine ⟨_, rfl, _, rfl, a, x :: xs, rfl, a1, fun p H1 s1 hp => ?_⟩
      rw [cut1q] at hp
      have hl := IsThs.len _ c2
      refine ⟨p, rfl, ⟨_, SqT.of hp⟩, comp_tup (K := K) (a := p) (xs := xs) (fun i ys σc H' => ∃ o, σc = [o] ∧ IsThs H ys ((ts.take i).filter isTup) ∧ ys.length ≤ i ∧ H' = H1) ⟨none, rfl, by rw [List.take_zero]; exact .nil, Nat.le_refl _, rfl⟩ (fun i ys σc H' ⟨_, _, _, _, e⟩ => by rw [e]; exact SqT.of hp) ?_ ?_⟩
      · rintro i x ys σc H' hx hi ⟨o, rfl, hys, hyl, rfl⟩
        obtain ⟨t, ht, h1⟩ := ths_get _ c2 hx
        have hnext : (ts.take (i + 1)).filter isTup = (ts.take i).filter isTup ++ (if isTup t = true then [t] else []) := take_nextR _ ht
        refine ⟨by have : sizeLine = 16777216 := sizeLine_eq; omega, ?_⟩
        refine ⟨_, rfl, _, _, _, _, rfl, th_ty (IsTh.kp (Kp.of s1) h1), KI.tup h1, _, rfl, ite2 (fun g => ?_) (fun g => ?_)⟩
        · refine ⟨_, rfl, nx hi ⟨_, rfl, ?_, by rw [List.length_append]; show ys.length + 1 ≤ i + 1; omega, rfl⟩⟩
          rw [hnext, if_pos g]
          exact IsThs.app _ hys (.cons h1 .nil)
        · refine nx hi ⟨_, rfl, ?_, by omega, rfl⟩
          rw [hnext, if_neg g, List.append_nil]
          exact hys
      · rintro ys σc H' ⟨o, rfl, hys, hyl, rfl⟩ q hq
        rw [List.take_of_length_le (by omega)] at hys
        exact k q ys _ (s1.trans (same_upd hq)) (same_none s1 hq) upd_same hys
theorem scLawNodes : FnScope ["_law_e"] ["_law_e"] (defScope sLawNodes) := ⟨rfl, rfl, rfl, by decide +kernel, rfl, by decide +kernel, by decide +kernel⟩
theorem sum_le : ∀ (us : List Th) (ns : List Int), ns.length = us.length → (∀ (i : Nat) (m : Int) (t : Th), ns[i]? = some m → us[i]? = some t → 1 ≤ m ∧ m ≤ Th.sz t) → 0 ≤ ns.sum ∧ ns.sum ≤ szs us := by
  intro us
  induction us with
  | nil => intro ns h _; cases ns with
    | nil => simp [szs]
    | cons _ _ => simp at h
  | cons u us ih =>
    intro ns h g
    cases ns with
    | nil => simp at h
    | cons m ns =>
      have h1 := g 0 m u rfl rfl
      have h2 := ih ns (by simpa using h) (fun i m t e1 e2 => g (i + 1) m t (by simpa using e1) (by simpa using e2))
      rw [List.sum_cons, szs]
      omega
theorem ok_lawnodes {f fP : Addr} {fd dP : FuncData} (F : Fun K "_law_nodes" "_law_nodes" sLawNodes f fd) (b : Binds K fd ["_law_e"] []) (m : mg "_law_nodes" = some (.ref f)) (T : TxtT mg) (KI : Kits K) (hsum : mg "sum" = none)
    (FP : Fun K "_law_parts" "_law_parts" sLawParts fP dP) (bP : Binds K dP ["_law_e"] []) (mP : mg "_law_parts" = some (.ref fP)) : ∀ N, FnOk P w K mg base CX0 (N + 2) f fd ["_law_e"] (spNodes N) := by
  have GP : FnOk P w K mg base CX0 1 fP dP ["_law_e"] spLawParts := ok_lawparts FP T KI
  intro N
  induction N with
  | zero =>
    refine F.ok scLawNodes (fun vs H Q E h => ?_) (fun cdv A outer s H vs Q E hr h => ?_)
    · obtain ⟨v, t, rfl, _⟩ := h
      rfl
    · obtain ⟨v, t, rfl, _, h, _⟩ := h
      exact h.elim
  | succ N ih =>
    refine F.ok scLawNodes (fun vs H Q E h => ?_) (fun cdv A outer s H vs Q E hr h => ?_)
    · obtain ⟨v, t, rfl, _⟩ := h
      rfl
    · obtain ⟨v, t, rfl, hv, hD, hz, k⟩ := h
      have hr1 : Room 1 _ := hr.mono (by omega)
      refine ⟨_, pss_one (ps_ret (pe_op op_add pe_int (pe_callB (call_sum rfl) (by rfl) hsum (by decide +kernel) (pa_cons (pe_comp (N' := ["_law_part"]) (src := [none]) rfl (compScope_of (defScope sLawNodes) rfl ["_law_e"] rfl (by decide +kernel)) (pi_list (pe_call GP hr1 (by rfl) mP FP.kp bP .nil pass0 (pa_n (pv 0) pa_nil)))
        (fun cl C ex s0 H0 => ⟨pg_name (i := 0) (nd1 _) rfl (Or.inl rfl), pts_nil, pe_call ih hr (by rfl) m F.kp b .nil pass0 (pa_n (pv 0) pa_nil)⟩)) pa_nil)))), ?_⟩
      obtain ⟨u, ts, rfl, hu, hrec⟩ := hD
      have e0 : Th.sz (.tup (u :: ts)) = 1 + (Th.sz u + szs ts) := by simp only [Th.sz, szs]
      have e1 := sz_pos u
      have e2 := szs_len ts
      refine ⟨_, rfl, v, u, ts, rfl, hv, by omega, fun p ws H1 s1 hp0 hp hws => ?_⟩
      have hl := IsThs.len _ hws
      have hlf := szs_len (ts.filter isTup)
      have hf := szs_filter ts
      refine ⟨p, rfl, ⟨_, SqL.of hp⟩, comp_list (K := K) (a := p) (xs := ws) (fun i ys σc H' => ∃ (o : Option V) (ms : List Int), σc = [o] ∧ ys = ms.map V.int ∧ ms.length = i ∧ (∀ j q t, j < i → ms[j]? = some q → (ts.filter isTup)[j]? = some t → 1 ≤ q ∧ q ≤ Th.sz t) ∧ Same H1 H')
        ⟨none, [], rfl, rfl, rfl, fun j q t hj => absurd hj (Nat.not_lt_zero _), Same.refl _⟩ (fun i ys σc H' ⟨_, _, _, _, _, _, e⟩ => SqL.of (e _ _ hp)) ?_ ?_⟩
      · rintro i x ys σc H' hx hi ⟨o, ms, rfl, rfl, hm, hall, s2⟩
        obtain ⟨t, ht, h1⟩ := ths_get _ hws hx
        have hmem := List.mem_of_getElem? ht
        rw [List.mem_filter] at hmem
        have hst := szs_mem _ ht
        refine ⟨by rw [List.length_map]; have : sizeLine = 16777216 := sizeLine_eq; omega, ?_⟩
        refine ⟨_, rfl, x, t, rfl, IsTh.kp (Kp.of (s1.trans s2)) h1, hrec t hmem.1 hmem.2, by omega, fun q H2 q1 q2 s3 => nx hi ⟨_, ms ++ [q], rfl, by rw [List.map_append]; rfl, by rw [List.length_append, hm]; rfl, fun j q' t' hj hq' ht' => ?_, s2.trans s3⟩⟩
        by_cases hji : j < i
        · refine hall j q' t' hji ?_ ht'
          rw [List.getElem?_append_left (by omega)] at hq'
          exact hq'
        · have : j = i := by omega
          subst this
          rw [List.getElem?_append_right (by omega), hm, Nat.sub_self] at hq'
          have : q = q' := by simpa using hq'
          subst this
          rw [ht] at ht'
          cases ht'
          exact ⟨q1, q2⟩
      · rintro ys σc H' ⟨o, ms, rfl, rfl, hm, hall, s2⟩ q hq
        have hsum := sum_le (ts.filter isTup) ms (by omega) (fun i q t e1 e2 => hall i q t (by
          have := (List.getElem?_eq_some_iff.mp e2).1
          omega) e1 e2)
        refine ⟨q, ms, rfl, SqL.of upd_same, _, _, rfl, rfl, k _ _ (by omega) ?_ (s1.trans (s2.trans (same_upd hq)))⟩
        rw [e0]
        omega
end
end K08

set_option Elab.async false
set_option linter.all false
set_option maxRecDepth 100000
set_option maxHeartbeats 4000000
namespace K08
open PySem L2
/-! which trees are made -/
theorem node_tree {w : Str} {k : Wd} {inner : List Th} (hk : kindOf w = some k) (hf : fitB (rule nameB signB k) inner = true) (hall : ∀ x ∈ inner, isTup x = true → treeT x = true) : treeT (.tup (.at (.str w) :: inner)) = true := by
  show treeB nameB signB _ = true
  rw [treeB, nodeB, hk, treesB, trees_all]
  simp only [isTup, Bool.false_eq_true, if_false, Bool.true_and]
  rw [hf, Bool.true_and, List.all_eq_true]
  intro x hx
  rw [List.mem_filter] at hx
  exact hall x hx.1 hx.2
/-- a head: a word, perhaps a thing of its own, and how many parts may follow -/
inductive HeadOk : List Th → Nat → Nat → Prop where
  | none {w : Str} {k : Wd} {lo hi : Nat} (hk : kindOf w = some k) (hr : rule nameB signB k = (none, lo, hi)) : HeadOk [.at (.str w)] lo hi
  | some {w : Str} {k : Wd} {f : Th → Bool} {lo hi : Nat} {v : V} (hk : kindOf w = some k) (hr : rule nameB signB k = (some f, lo, hi)) (hf : f (.at v) = true) : HeadOk [.at (.str w), .at v] lo hi
theorem head_tree {hs : List Th} {lo hi : Nat} {cs : List Th} (h : HeadOk hs lo hi) (h1 : lo ≤ cs.length) (h2 : cs.length ≤ hi) (hc : ∀ c ∈ cs, treeT c = true) : treeT (.tup (hs ++ cs)) = true := by
  have ht : cs.all isTup = true := List.all_eq_true.mpr fun c hcs => treeB_tup nameB signB (hc c hcs)
  cases h with
  | none hk hr =>
    refine node_tree hk ?_ (fun x hx _ => hc x hx)
    rw [hr]
    show (decide (lo ≤ cs.length) && decide (cs.length ≤ hi) && cs.all isTup) = true
    rw [decide_eq_true h1, decide_eq_true h2, ht]
    rfl
  | @some w k f _ _ v hk hr hf =>
    refine node_tree (inner := .at v :: cs) hk ?_ (fun x hx hx2 => ?_)
    · rw [hr]
      show (f (.at v) && (decide (lo ≤ cs.length) && decide (cs.length ≤ hi) && cs.all isTup)) = true
      rw [hf, decide_eq_true h1, decide_eq_true h2, ht]
      rfl
    · rcases List.mem_cons.mp hx with z | z
      · subst z; cases hx2
      · exact hc x z
theorem head_deep {hs : List Th} {lo hi N : Nat} {cs : List Th} (h : HeadOk hs lo hi) (hc : ∀ c ∈ cs, DpT N c) : DpT (N + 1) (.tup (hs ++ cs)) := by
  cases h with
  | none hk hr => exact ⟨_, cs, rfl, rfl, fun x hx _ => hc x hx⟩
  | @some w k f _ _ v hk hr hf =>
    refine ⟨_, .at v :: cs, rfl, rfl, fun x hx hx2 => ?_⟩
    rcases List.mem_cons.mp hx with z | z
    · subst z; cases hx2
    · exact hc x z
theorem head_sz {hs : List Th} {lo hi : Nat} (h : HeadOk hs lo hi) : szs hs ≤ 2 := by
  cases h with
  | none hk hr => simp [szs, Th.sz]
  | some hk hr hf => simp [szs, Th.sz]
theorem head_dp {hs : List Th} {lo hi : Nat} (h : HeadOk hs lo hi) : dps hs = 0 := by
  cases h with
  | none hk hr => simp [dps, Th.dp]
  | some hk hr hf => simp [dps, Th.dp]
abbrev kS (x : Str) : Kd := .cst (.str x)
def heads5 : List Kd := [.tup [kS "op", .sgn], .tup [kS "pick"], .tup [kS "let"], .tup [kS "let"], .tup [kS "set", .nam]]
def heads10 : List Kd := heads5 ++ [.tup [kS "say"], .tup [kS "do"], .tup [kS "do"], .tup [kS "again", .rng 0 6], .tup [kS "call", .nam]]
def heads12 : List Kd := heads10 ++ [.tup [kS "call", .nam], .tup [kS "op", kS "/"]]
abbrev kI (i : Int) : Kd := .cst (.int i)
def many12 : List Kd := [kI 2, kI 3, kI 2, kI 2, kI 1, kI 1, .rng 1 7, kI 6, kI 1, .rng 0 7, kI 6, kI 2]
theorem sh1 {a : Str} {t : Th} (h : Shape (.tup [kS a]) t) : t = .tup [.at (.str a)] := by
  rw [Shape] at h
  obtain ⟨ts, rfl, h⟩ := h
  rw [Shapes] at h
  obtain ⟨x, r, rfl, h1, h2⟩ := h
  rw [Shapes] at h2
  rw [Shape] at h1
  subst h1 h2
  rfl
theorem sh2 {a : Str} {k : Kd} {t : Th} (h : Shape (.tup [kS a, k]) t) : ∃ x, t = .tup [.at (.str a), x] ∧ Shape k x := by
  rw [Shape] at h
  obtain ⟨ts, rfl, h⟩ := h
  rw [Shapes] at h
  obtain ⟨x, r, rfl, h1, h2⟩ := h
  rw [Shapes] at h2
  obtain ⟨y, r2, rfl, h3, h4⟩ := h2
  rw [Shapes] at h4
  rw [Shape] at h1
  subst h1 h4
  exact ⟨y, rfl, h3⟩
theorem shN {x : Th} (h : Shape .nam x) : ∃ v, x = .at v ∧ nameB x = true := by
  rw [Shape] at h
  obtain ⟨y, rfl, h⟩ := h
  exact ⟨_, rfl, h⟩
theorem shG {x : Th} (h : Shape .sgn x) : ∃ v, x = .at v ∧ signB x = true := by
  rw [Shape] at h
  obtain ⟨y, rfl, h⟩ := h
  exact ⟨_, rfl, (inV_strs y signsL).mpr h⟩
theorem shR {x : Th} {lo hi : Int} (h : Shape (.rng lo hi) x) : ∃ i : Int, x = .at (.int i) ∧ lo ≤ i ∧ i < hi := by
  rw [Shape] at h; exact h
theorem shI {x : Th} {i : Int} (h : Shape (kI i) x) : x = .at (.int i) := by
  rw [Shape] at h; exact h
/-- what follows a head, by the way that was drawn -/
theorem way_ok {j : Nat} {kh km : Kd} {t : Th} {i : Int} (e1 : heads12[j]? = some kh) (e2 : many12[j]? = some km) (h1 : Shape kh t) (h2 : Shape km (.at (.int i))) :
    ∃ hs lo hi, t = .tup hs ∧ HeadOk hs lo hi ∧ (lo : Int) ≤ i ∧ i ≤ hi ∧ 0 ≤ i ∧ i ≤ 6 := by
  have hj : j < 12 := (List.getElem?_eq_some_iff.mp e2).1
  have ii : ∀ {z : Int}, Shape (kI z) (.at (.int i)) → i = z := fun {z} h => by
    have := shI h
    injection this with this
    injection this
  have case2 : ∀ {a : Str} {k : Wd} {f : Th → Bool} {lo hi : Nat} {y : Th} {v : V}, kindOf a = some k → rule nameB signB k = (some f, lo, hi) → y = .at v → f y = true → (lo : Int) ≤ i ∧ i ≤ hi ∧ 0 ≤ i ∧ i ≤ 6 →
      ∃ hs lo hi, (Th.tup [.at (.str a), y]) = .tup hs ∧ HeadOk hs lo hi ∧ (lo : Int) ≤ i ∧ i ≤ hi ∧ 0 ≤ i ∧ i ≤ 6 := by
    intro a k f lo hi y v hk hr hy hf hb
    subst hy
    exact ⟨_, lo, hi, rfl, .some hk hr hf, hb⟩
  have case1 : ∀ {a : Str} {k : Wd} {lo hi : Nat}, kindOf a = some k → rule nameB signB k = (none, lo, hi) → (lo : Int) ≤ i ∧ i ≤ hi ∧ 0 ≤ i ∧ i ≤ 6 →
      ∃ hs lo hi, (Th.tup [.at (.str a)]) = .tup hs ∧ HeadOk hs lo hi ∧ (lo : Int) ≤ i ∧ i ≤ hi ∧ 0 ≤ i ∧ i ≤ 6 := by
    intro a k lo hi hk hr hb
    exact ⟨_, lo, hi, rfl, .none hk hr, hb⟩
  match j, hj, e1, e2 with
  | 0, _, e1, e2 =>
    cases e1; cases e2
    obtain ⟨x, rfl, hx⟩ := sh2 h1
    obtain ⟨v, hv, hs⟩ := shG hx
    have := ii h2
    exact case2 (k := .op) (by decide +kernel) rfl hv hs ⟨by omega, by omega, by omega, by omega⟩
  | 1, _, e1, e2 =>
    cases e1; cases e2
    have := sh1 h1; subst this
    have := ii h2
    exact case1 (k := .pick) (by decide +kernel) rfl ⟨by omega, by omega, by omega, by omega⟩
  | 2, _, e1, e2 =>
    cases e1; cases e2
    have := sh1 h1; subst this
    have := ii h2
    exact case1 (k := .lett) (by decide +kernel) rfl ⟨by omega, by omega, by omega, by omega⟩
  | 3, _, e1, e2 =>
    cases e1; cases e2
    have := sh1 h1; subst this
    have := ii h2
    exact case1 (k := .lett) (by decide +kernel) rfl ⟨by omega, by omega, by omega, by omega⟩
  | 4, _, e1, e2 =>
    cases e1; cases e2
    obtain ⟨x, rfl, hx⟩ := sh2 h1
    obtain ⟨v, hv, hs⟩ := shN hx
    have := ii h2
    exact case2 (k := .sett) (by decide +kernel) rfl hv hs ⟨by omega, by omega, by omega, by omega⟩
  | 5, _, e1, e2 =>
    cases e1; cases e2
    have := sh1 h1; subst this
    have := ii h2
    exact case1 (k := .say) (by decide +kernel) rfl ⟨by omega, by omega, by omega, by omega⟩
  | 6, _, e1, e2 =>
    cases e1; cases e2
    have := sh1 h1; subst this
    obtain ⟨z, e, z1, z2⟩ := shR h2
    injection e with e; injection e with e
    exact case1 (k := .dow) (by decide +kernel) rfl ⟨by omega, by omega, by omega, by omega⟩
  | 7, _, e1, e2 =>
    cases e1; cases e2
    have := sh1 h1; subst this
    have := ii h2
    exact case1 (k := .dow) (by decide +kernel) rfl ⟨by omega, by omega, by omega, by omega⟩
  | 8, _, e1, e2 =>
    cases e1; cases e2
    obtain ⟨x, rfl, hx⟩ := sh2 h1
    obtain ⟨z, rfl, z1, z2⟩ := shR hx
    have := ii h2
    refine case2 (k := .again) (by decide +kernel) rfl rfl ?_ ⟨by omega, by omega, by omega, by omega⟩
    show (decide (0 ≤ z) && decide (z ≤ 5)) = true
    rw [decide_eq_true z1, decide_eq_true (by omega)]; rfl
  | 9, _, e1, e2 =>
    cases e1; cases e2
    obtain ⟨x, rfl, hx⟩ := sh2 h1
    obtain ⟨v, hv, hs⟩ := shN hx
    obtain ⟨z, e, z1, z2⟩ := shR h2
    injection e with e; injection e with e
    exact case2 (k := .call) (by decide +kernel) rfl hv hs ⟨by omega, by omega, by omega, by omega⟩
  | 10, _, e1, e2 =>
    cases e1; cases e2
    obtain ⟨x, rfl, hx⟩ := sh2 h1
    obtain ⟨v, hv, hs⟩ := shN hx
    have := ii h2
    exact case2 (k := .call) (by decide +kernel) rfl hv hs ⟨by omega, by omega, by omega, by omega⟩
  | 11, _, e1, e2 =>
    cases e1; cases e2
    obtain ⟨x, rfl, hx⟩ := sh2 h1
    rw [Shape] at hx
    subst hx
    have := ii h2
    exact case2 (k := .op) (by decide +kernel) rfl rfl (by decide +kernel) ⟨by omega, by omega, by omega, by omega⟩
/-! the world -/
def roomKV (r : Int) : List (Key × V) := [(Sum.inr "room", .int r)]
theorem kv_room (r : Int) : valV (roomKV r) (Sum.inr "room") = some (.int r) := by with_unfolding_all rfl
theorem put_room (r q : Int) : putK (roomKV r) (Sum.inr "room") (.int q) = roomKV q := by with_unfolding_all rfl
theorem get_room {H : Hp} {d : Addr} {r : Int} (h : H d = some (.dK (roomKV r))) : DGet H d (.str "room") (some (.int r)) := by
  have := DGet.k (k := Sum.inr "room") h; rw [kv_room] at this; exact this
theorem set_room {H : Hp} {d : Addr} {r q : Int} (h : H d = some (.dK (roomKV r))) : DPut H d (.str "room") (.int q) (upd H d (.dK (roomKV q))) := by
  have := DPut.k (k := Sum.inr "room") (v := .int q) h (by show 1 < sizeLine; decide); rw [put_room] at this; exact this
/-- all but these two stays -/
def But2 (d e : Addr) (H H' : Hp) : Prop := ∀ b o, H b = some o → b ≠ d → b ≠ e → H' b = some o
theorem But2.refl (d e : Addr) (H : Hp) : But2 d e H H := fun _ _ h _ _ => h
theorem But2.trans {d e : Addr} {H H1 H2 : Hp} (a : But2 d e H H1) (b : But2 d e H1 H2) : But2 d e H H2 := fun c o h n m => b c o (a c o h n m) n m
theorem But2.of {d e : Addr} {H H1 : Hp} (a : But d H H1) : But2 d e H H1 := fun c o h n _ => a c o h n
theorem But2.same {d e : Addr} {H H1 : Hp} (a : Same H H1) : But2 d e H H1 := fun c o h _ _ => a c o h
theorem But2.upd {d e : Addr} {H : Hp} {o : HO} : But2 d e H (upd H e o) := fun c u h _ n => by rw [upd_ne n]; exact h
theorem But2.kp {d e l : Addr} {ns : List Int} {n : Nat} {r : Int} {H H' : Hp} (b : But2 d e H H') (F : Feed H d l ns n) (W : H e = some (.dK (roomKV r))) : Kp H H' := by
  obtain ⟨⟨z, hd⟩, _, _⟩ := F
  intro a o h hk
  exact b a o h (fun q => by subst q; rw [hd] at h; cases h; exact hk _ rfl) (fun q => by subst q; rw [W] at h; cases h; exact hk _ rfl)
theorem world_ne {H : Hp} {d e l : Addr} {ns : List Int} {n : Nat} {r : Int} (F : Feed H d l ns n) (W : H e = some (.dK (roomKV r))) : e ≠ d := by
  obtain ⟨⟨z, hd⟩, _, _⟩ := F
  refine ne_of W hd (fun q => ?_)
  injection q with q
  have := congrArg List.length q
  simp [roomKV, feedKV] at this
theorem Feed.but2 {H : Hp} {d e l : Addr} {ns : List Int} {n : Nat} {r q : Int} (F : Feed H d l ns n) (W : H e = some (.dK (roomKV r))) : Feed (L2.upd H e (.dK (roomKV q))) d l ns n := by
  have hne := world_ne F W
  obtain ⟨⟨z, hd⟩, hl, hs⟩ := F
  refine ⟨⟨z, by rw [upd_ne hne.symm]; exact hd⟩, ?_, hs⟩
  rw [upd_ne (ne_of hl W (by intro q; cases q))]
  exact hl
def cS : Nat → Nat
  | 0 => 0
  | N + 1 => 3 + 6 * cS N
def cC : Nat → Nat
  | 0 => 0
  | N + 1 => 40 + 6 * cC N
def spForm (N : Nat) : Sp := fun vs H Q _ => ∃ (d l wd : Addr) (ns : List Int) (n : Nat) (r b : Int), vs = [.ref d, .ref wd, .int b] ∧ 1 ≤ N ∧ b ≤ N ∧ Feed H d l ns n ∧ H wd = some (.dK (roomKV r)) ∧ n + cC N ≤ lim ∧
  ∀ (v : V) (t : Th) (n' : Nat) (r' : Int) H', IsTh H' v t → treeT t = true → DpT N t → Th.sz t ≤ cS N → Th.dp t ≤ N → n' ≤ n + cC N → Feed H' d l ns n' → H' wd = some (.dK (roomKV r')) → But2 d wd H H' → Q v H'
theorem or3 {t1 t2 t3 : TT} {σ : St} {H : Hp} {b1 b2 b3 : Bool} {A B : Hp → Prop} (h1 : ∀ Q : Bool → Hp → Prop, Q b1 H → t1 σ H Q) (h2 : ∀ Q : Bool → Hp → Prop, Q b2 H → t2 σ H Q) (h3 : ∀ Q : Bool → Hp → Prop, Q b3 H → t3 σ H Q) (leaf : A H) (go : b1 = false → b2 = false → b3 = false → B H) :
    tOr t1 (tOr t2 t3) σ H (fun b H1 => if b = true then A H1 else B H1) := by
  refine h1 _ ?_
  cases b1 with
  | true => exact iteT (iteT leaf)
  | false =>
    refine iteF (h2 _ ?_)
    cases b2 with
    | true => exact iteT (iteT leaf)
    | false =>
      refine iteF (h3 _ ?_)
      cases b3 with
      | true => exact iteT leaf
      | false => exact iteF (go rfl rfl rfl)
end K08

set_option Elab.async false
set_option linter.all false
set_option maxRecDepth 100000
set_option maxHeartbeats 4000000
namespace K08
open PySem L2
section
variable {X : Cx} {G : Gam}
theorem made3 {f f2 f3 f4 : Addr} {fd fd2 fd3 fd4 : FuncData} {k k2 k3 k4 : Nat} (GD : FnOk X.prog X.w X.K X.mg X.base CX0 k f fd ["_law_feed_here", "_law_many"] spDraw) (hr : Room k X.A) (hg : Gl X "_law_draw") (hm : X.mg "_law_draw" = some (.ref f)) (hk : PySem.W.keepIn X.K (.ref f) = true) (hb : Binds X.K fd ["_law_feed_here", "_law_many"] [])
    (GN : FnOk X.prog X.w X.K X.mg X.base CX0 k2 f2 fd2 ["_law_feed_here", "_law_taken"] spLawName) (hr2 : Room k2 X.A) (hg2 : Gl X "_law_name") (hm2 : X.mg "_law_name" = some (.ref f2)) (hk2 : PySem.W.keepIn X.K (.ref f2) = true) (hb2 : Binds X.K fd2 ["_law_feed_here", "_law_taken"] [])
    (GV : FnOk X.prog X.w X.K X.mg X.base CX0 k3 f3 fd3 ["_law_feed_here"] spLawValue) (hr3 : Room k3 X.A) (hg3 : Gl X "_law_value") (hm3 : X.mg "_law_value" = some (.ref f3)) (hk3 : PySem.W.keepIn X.K (.ref f3) = true) (hb3 : Binds X.K fd3 ["_law_feed_here"] [])
    (GF : FnOk X.prog X.w X.K X.mg X.base CX0 k4 f4 fd4 ["_law_feed_here"] spFar) (hr4 : Room k4 X.A) (hg4 : Gl X "_law_far") (hm4 : X.mg "_law_far" = some (.ref f4)) (hk4 : PySem.W.keepIn X.K (.ref f4) = true) (hb4 : Binds X.K fd4 ["_law_feed_here"] [])
    (hfd : X.N[0]? = some feedN ∧ Vis X.env.scope feedN) (hv : VarsOk X G) : MadeCx X G hasN where
  draw := ⟨f, fd, k, GD, hr, hg, hm, hk, hb⟩
  name := fun _ => ⟨f2, fd2, k2, GN, hr2, hg2, hm2, hk2, hb2⟩
  val := fun _ => ⟨f3, fd3, k3, GV, hr3, hg3, hm3, hk3, hb3⟩
  far := fun _ => ⟨f4, fd4, k4, GF, hr4, hg4, hm4, hk4, hb4⟩
  lst := fun h => by cases h
  feed := hfd
  vars := vars_of hv
end
def words6 : List Kd := [kS "own", kS "hole", kS "num", kS "name", kS "take", kS "own"]
theorem word6 {H : Hp} {v : V} (h : Den (.one words6) H v) : (v = .str "own" ∨ v = .str "hole") ∨ v = .str "num" ∨ v = .str "name" ∨ v = .str "take" := by
  obtain ⟨t, a, b⟩ := h
  rw [Shape] at b
  unfold words6 at b
  simp only [OneOf, Shape] at b
  have fin : ∀ {x : Str}, t = .at (.str x) → v = .str x := fun {x} e => by subst e; exact (th_at a).1
  rcases b with b | b | b | b | b | b | b
  · exact .inl (.inl (fin b))
  · exact .inl (.inr (fin b))
  · exact .inr (.inl (fin b))
  · exact .inr (.inr (.inl (fin b)))
  · exact .inr (.inr (.inr (fin b)))
  · exact .inl (.inl (fin b))
  · exact b.elim
/-- the helpers that make -/
structure Makers (K : PySem.W.Frag) (mg : Str → Option Value) (fN fV fF : Addr) (dN dV dF : FuncData) : Prop where
  N : Fun K "_law_name" "_law_name" sLawName fN dN
  bN : Binds K dN ["_law_feed_here", "_law_taken"] []
  mN : mg "_law_name" = some (.ref fN)
  V : Fun K "_law_value" "_law_value" sLawValue fV dV
  bV : Binds K dV ["_law_feed_here"] []
  mV : mg "_law_value" = some (.ref fV)
  F : Fun K "_law_far" "_law_far" sFar fF dF
  bF : Binds K dF ["_law_feed_here"] []
  mF : mg "_law_far" = some (.ref fF)
theorem leaf_tree {a : Str} {k : Wd} {f : Th → Bool} {v : V} (hk : kindOf a = some k) (hr : rule nameB signB k = (some f, 0, 0)) (hf : f (.at v) = true) (N : Nat) :
    treeT (.tup [.at (.str a), .at v]) = true ∧ DpT (N + 1) (.tup [.at (.str a), .at v]) ∧ Th.sz (.tup [.at (.str a), .at v]) ≤ cS (N + 1) ∧ Th.dp (.tup [.at (.str a), .at v]) ≤ N + 1 := by
  have h : HeadOk [.at (.str a), .at v] 0 0 := .some hk hr hf
  refine ⟨?_, ?_, ?_, ?_⟩
  · have := head_tree (cs := []) h (Nat.le_refl _) (Nat.le_refl _) (fun c hc => by cases hc)
    rw [List.append_nil] at this; exact this
  · have := head_deep (N := N) (cs := []) h (fun c hc => by cases hc)
    rw [List.append_nil] at this; exact this
  · simp only [Th.sz, szs, cS]; omega
  · simp only [Th.dp, dps]; omega
theorem take_tree (N : Nat) : treeT (.tup [.at (.str "take")]) = true ∧ DpT (N + 1) (.tup [.at (.str "take")]) ∧ Th.sz (.tup [.at (.str "take")]) ≤ cS (N + 1) ∧ Th.dp (.tup [.at (.str "take")]) ≤ N + 1 := by
  have h : HeadOk [.at (.str "take")] 0 0 := .none (k := .take) (by decide +kernel) rfl
  refine ⟨?_, ?_, ?_, ?_⟩
  · have := head_tree (cs := []) h (Nat.le_refl _) (Nat.le_refl _) (fun c hc => by cases hc)
    rw [List.append_nil] at this; exact this
  · have := head_deep (N := N) (cs := []) h (fun c hc => by cases hc)
    rw [List.append_nil] at this; exact this
  · simp only [Th.sz, szs, cS]; omega
  · simp only [Th.dp, dps]; omega
abbrev ohKd : Kd := .one [kS "own", kS "hole"]
theorem if3 {t1 t2 t3 : TT} {ta tb : TS} {D : Ends} {σ : St} {H : Hp} {b1 b2 b3 : Bool} (h1 : ∀ Q : Bool → Hp → Prop, Q b1 H → t1 σ H Q) (h2 : ∀ Q : Bool → Hp → Prop, Q b2 H → t2 σ H Q) (h3 : ∀ Q : Bool → Hp → Prop, Q b3 H → t3 σ H Q) (leaf : ta D σ H) (go : b1 = false → b2 = false → b3 = false → tb D σ H) :
    tIfS (tOr t1 (tOr t2 t3)) ta tb D σ H := or3 (A := fun H => ta D σ H) (B := fun H => tb D σ H) h1 h2 h3 leaf go
theorem at_seq {t u : TS} {D : Ends} {σ : St} {H : Hp} (h : t { D with nx := u D } σ H) : tSeq t u D σ H := h
theorem den_oh {H : Hp} {x : Str} (h : x = "own" ∨ x = "hole") : Den ohKd H (.str x) := by
  refine ⟨.at (.str x), .at ?_, ?_⟩
  · rcases h with rfl | rfl <;> decide +kernel
  · rw [Shape]
    simp only [OneOf, Shape]
    rcases h with rfl | rfl
    · exact .inl rfl
    · exact .inr (.inl rfl)
theorem oh_leaf {t : Th} (h : Shape (.tup [ohKd, .rng 0 (10 ^ 60)]) t) (N : Nat) : treeT t = true ∧ DpT (N + 1) t ∧ Th.sz t ≤ cS (N + 1) ∧ Th.dp t ≤ N + 1 := by
  rw [Shape] at h
  obtain ⟨ts, rfl, h⟩ := h
  rw [Shapes] at h
  obtain ⟨x, r, rfl, h1, h2⟩ := h
  rw [Shapes] at h2
  obtain ⟨y, r2, rfl, h3, h4⟩ := h2
  rw [Shapes] at h4
  subst h4
  obtain ⟨i, rfl, i1, i2⟩ := shR h3
  rw [Shape] at h1
  simp only [OneOf, Shape] at h1
  have hi : inRange (.at (.int i)) none = true := by show (decide (0 ≤ i) && true) = true; rw [decide_eq_true i1]; rfl
  rcases h1 with rfl | rfl | z
  · exact leaf_tree (k := .own) (by decide +kernel) rfl hi N
  · exact leaf_tree (k := .hole) (by decide +kernel) rfl hi N
  · exact z.elim
theorem num_leaf {t : Th} (h : Shape (.tup [kS "num", .rng 0 1000000000]) t) (N : Nat) : treeT t = true ∧ DpT (N + 1) t ∧ Th.sz t ≤ cS (N + 1) ∧ Th.dp t ≤ N + 1 := by
  obtain ⟨y, rfl, h2⟩ := sh2 h
  obtain ⟨i, rfl, i1, i2⟩ := shR h2
  refine leaf_tree (k := .num) (by decide +kernel) rfl ?_ N
  show (decide (0 ≤ i) && decide (i ≤ 999999999)) = true
  rw [decide_eq_true i1, decide_eq_true (by omega)]; rfl
theorem name_leaf {t : Th} (h : Shape (.tup [kS "name", .nam]) t) (N : Nat) : treeT t = true ∧ DpT (N + 1) t ∧ Th.sz t ≤ cS (N + 1) ∧ Th.dp t ≤ N + 1 := by
  obtain ⟨y, rfl, h2⟩ := sh2 h
  obtain ⟨v, rfl, hv⟩ := shN h2
  exact leaf_tree (k := .name) (by decide +kernel) rfl hv N
theorem szs_all : ∀ (cs : List Th) {m : Nat}, (∀ c ∈ cs, Th.sz c ≤ m) → szs cs ≤ cs.length * m := by
  intro cs
  induction cs with
  | nil => intro m _; simp [szs]
  | cons c cs ih =>
    intro m h
    have h1 := h c (List.mem_cons_self ..)
    have h2 := ih (fun x hx => h x (List.mem_cons_of_mem _ hx))
    rw [List.length_cons, szs, Nat.succ_mul]
    omega
theorem dps_all : ∀ (cs : List Th) {m : Nat}, (∀ c ∈ cs, Th.dp c ≤ m) → dps cs ≤ m := by
  intro cs
  induction cs with
  | nil => intro m _; simp [dps]
  | cons c cs ih =>
    intro m h
    have h1 := h c (List.mem_cons_self ..)
    have h2 := ih (fun x hx => h x (List.mem_cons_of_mem _ hx))
    rw [dps]
    omega
theorem many_int {j : Nat} {km : Kd} {t : Th} (e : many12[j]? = some km) (h : Shape km t) : ∃ i : Int, t = .at (.int i) := by
  have hm := List.mem_of_getElem? e
  have all : ∀ k ∈ many12, (asInt k).isSome = true := by
    intro k hk
    simp only [many12, List.mem_cons, List.not_mem_nil, or_false] at hk
    rcases hk with rfl | rfl | rfl | rfl | rfl | rfl | rfl | rfl | rfl | rfl | rfl | rfl <;> rfl
  have := all km hm
  cases km with
  | cst v =>
    cases v with
    | int i => rw [Shape] at h; exact ⟨i, h⟩
    | _ => cases this
  | rng lo hi => rw [Shape] at h; obtain ⟨i, rfl, _⟩ := h; exact ⟨i, rfl⟩
  | _ => cases this
section
variable {P : Program} {w : World} {K : PySem.W.Frag} {mg : Str → Option Value} {base : Heap}
theorem nd_form : (["_law_feed_here", "_law_world", "_law_below", "_law_k"] : List Str).Nodup := by decide +kernel
theorem scForm : FnScope ["_law_feed_here", "_law_world", "_law_below", "_law_way", "_law_word", "_law_heads", "_law_many"] ["_law_feed_here", "_law_world", "_law_below"] (defScope sForm) := ⟨rfl, rfl, rfl, by decide +kernel, rfl, by decide +kernel, by decide +kernel⟩
theorem ok_form {f fD fS fN fV fF : Addr} {fd dD dS dN dV dF : FuncData} (F : Fun K "_law_form" "_law_form" sForm f fd) (b : Binds K fd ["_law_feed_here", "_law_world", "_law_below"] []) (m : mg "_law_form" = some (.ref f)) (U : Helpers K mg fD fS dD dS) (M : Makers K mg fN fV fF dN dV dF) (htup : mg "tuple" = none) :
    ∀ N, FnOk P w K mg base CX0 (N + 3) f fd ["_law_feed_here", "_law_world", "_law_below"] (spForm N) := by
  have GD : FnOk P w K mg base CX0 1 fD dD ["_law_feed_here", "_law_many"] spDraw := ok_draw U.D U.T
  have GN : FnOk P w K mg base CX0 2 fN dN ["_law_feed_here", "_law_taken"] spLawName := ok_lawname M.N U
  have GV : FnOk P w K mg base CX0 2 fV dV ["_law_feed_here"] spLawValue := ok_lawvalue M.V U
  have GF : FnOk P w K mg base CX0 2 fF dF ["_law_feed_here"] spFar := ok_far M.F U
  intro N
  induction N with
  | zero =>
    refine F.ok scForm (fun vs H Q E h => ?_) (fun cdv A outer s H vs Q E hr h => ?_)
    · obtain ⟨d, l, wd, ns, n, r, bb, rfl, _⟩ := h
      rfl
    · obtain ⟨d, l, wd, ns, n, r, bb, rfl, h, _⟩ := h
      exact absurd h (by decide)
  | succ N ih =>
    refine F.ok scForm (fun vs H Q E h => ?_) (fun cdv A outer s H vs Q E hr h => ?_)
    · obtain ⟨d, l, wd, ns, n, r, bb, rfl, _⟩ := h
      rfl
    · obtain ⟨d, l, wd, ns, n, r, bb, rfl, _, hb, F0, W0, hn, k⟩ := h
      have hu := hu_of hr
      have hr1 : Room 1 _ := hr.mono (by omega)
      have hr2 : Room 2 _ := hr.mono (by omega)
      have ec : cC (N + 1) = 40 + 6 * cC N := rfl
      have es : cS (N + 1) = 3 + 6 * cS N := rfl
      refine' ⟨?tt, ?body, ?fin⟩
      case body =>
        refine' pss_cons ?s1 (pss_cut ?s2 (pss_cons ?s3 (pss_cons ?s4 ?r4)))
        case s1 => exact ps_dput hu (pv 1) pe_str (pe_op op_sub (pe_dget hu (pv 1) pe_str (fun _ _ => rfl)) pe_int) rfl
        case s2 => exact ps_set (i := 3) scForm.nd rfl (Or.inl rfl) (chk_is (d := d) (l := l) (ns := ns) (k := .rng 0 14) (c := 1) (made0 (G := []) GD hr1 (by rfl) U.mD U.D.kp U.bD ⟨rfl, Or.inr (Or.inl rfl)⟩ trivial) (by decide +kernel))
        case s3 =>
          refine' ps_if ?c (pss_cons ?b1 (pss_cons ?b2 (pss_cons ?b3 (pss_cons ?b4 (pss_one ?b5))))) pss_nil
          case c => exact (pw_or (pt_cmpR op_lt (pv 2) pe_int (nomark _)) (pw_or (pt_cmpR op_lt (pe_dget hu (pv 1) pe_str (fun _ _ => rfl)) pe_int (nomark _)) (pw_or1 (pt_cmpR op_lt (pv 3) pe_int (nomark _))))).pt
          case b1 => exact ps_set (i := 4) scForm.nd rfl (Or.inl rfl) (chk_is (d := d) (l := l) (ns := ns) (k := .one words6) (c := 1) (made0 (G := []) GD hr1 (by rfl) U.mD U.D.kp U.bD ⟨rfl, Or.inr (Or.inl rfl)⟩ trivial) (by decide +kernel))
          case b2 =>
            refine' ps_if ?c (pss_one (ps_ret ?v)) pss_nil
            case c => exact (pw_or (pt_cmpR op_eq (pv 4) pe_str (nomark _)) (pw_or1 (pt_cmpR op_eq (pv 4) pe_str (nomark _)))).pt
            case v => exact (chk_is (d := d) (l := l) (ns := ns) (k := .tup [ohKd, .rng 0 (10 ^ 60)]) (c := 3)
            (made3 (G := [("_law_word", 4, ohKd)]) GD hr1 (by rfl) U.mD U.D.kp U.bD GN hr2 (by rfl) M.mN M.N.kp M.bN GV hr2 (by rfl) M.mV M.V.kp M.bV GF hr2 (by rfl) M.mF M.F.kp M.bF ⟨rfl, Or.inr (Or.inl rfl)⟩ ⟨⟨rfl, Or.inl rfl, by decide +kernel, by decide +kernel⟩, trivial⟩) (by decide +kernel))
          case b3 =>
            refine' ps_if ?c (pss_one (ps_ret ?v)) pss_nil
            case c => exact (pt_cmpR op_eq (pv 4) pe_str (nomark _))
            case v => exact (chk_is (d := d) (l := l) (ns := ns) (k := .tup [kS "take"]) (c := 0) (made0 (G := []) GD hr1 (by rfl) U.mD U.D.kp U.bD ⟨rfl, Or.inr (Or.inl rfl)⟩ trivial) (by decide +kernel))
          case b4 =>
            refine' ps_if ?c (pss_one (ps_ret ?v)) pss_nil
            case c => exact (pt_cmpR op_eq (pv 4) pe_str (nomark _))
            case v => exact (chk_is (d := d) (l := l) (ns := ns) (k := .tup [kS "num", .rng 0 1000000000]) (c := 3)
            (made3 (G := []) GD hr1 (by rfl) U.mD U.D.kp U.bD GN hr2 (by rfl) M.mN M.N.kp M.bN GV hr2 (by rfl) M.mV M.V.kp M.bV GF hr2 (by rfl) M.mF M.F.kp M.bF ⟨rfl, Or.inr (Or.inl rfl)⟩ trivial) (by decide +kernel))
          case b5 => exact ps_ret (chk_is (d := d) (l := l) (ns := ns) (k := .tup [kS "name", .nam]) (c := 8)
            (made3 (G := []) GD hr1 (by rfl) U.mD U.D.kp U.bD GN hr2 (by rfl) M.mN M.N.kp M.bN GV hr2 (by rfl) M.mV M.V.kp M.bV GF hr2 (by rfl) M.mF M.F.kp M.bF ⟨rfl, Or.inr (Or.inl rfl)⟩ trivial) (by decide +kernel))
        case s4 => exact ps_set (i := 5) scForm.nd rfl (Or.inl rfl) (chk_is (d := d) (l := l) (ns := ns) (k := .lst heads5) (c := 9)
            (made3 (G := []) GD hr1 (by rfl) U.mD U.D.kp U.bD GN hr2 (by rfl) M.mN M.N.kp M.bN GV hr2 (by rfl) M.mV M.V.kp M.bV GF hr2 (by rfl) M.mF M.F.kp M.bF ⟨rfl, Or.inr (Or.inl rfl)⟩ trivial) (by decide +kernel))
        case r4 =>
          refine' pss_cons ?s5 (pss_cut ?s6 ?r6)
          case s5 => exact ps_set (i := 5) scForm.nd rfl (Or.inl rfl) (chk_is (d := d) (l := l) (ns := ns) (k := .lst heads10) (c := 9)
              (made3 (G := [("_law_heads", 5, .lst heads5)]) GD hr1 (by rfl) U.mD U.D.kp U.bD GN hr2 (by rfl) M.mN M.N.kp M.bN GV hr2 (by rfl) M.mV M.V.kp M.bV GF hr2 (by rfl) M.mF M.F.kp M.bF ⟨rfl, Or.inr (Or.inl rfl)⟩ ⟨⟨rfl, Or.inl rfl, by decide +kernel, by decide +kernel⟩, trivial⟩) (by decide +kernel))
          case s6 => exact ps_set (i := 5) scForm.nd rfl (Or.inl rfl) (chk_is (d := d) (l := l) (ns := ns) (k := .lst heads12) (c := 8)
              (made3 (G := [("_law_heads", 5, .lst heads10)]) GD hr1 (by rfl) U.mD U.D.kp U.bD GN hr2 (by rfl) M.mN M.N.kp M.bN GV hr2 (by rfl) M.mV M.V.kp M.bV GF hr2 (by rfl) M.mF M.F.kp M.bF ⟨rfl, Or.inr (Or.inl rfl)⟩ ⟨⟨rfl, Or.inl rfl, by decide +kernel, by decide +kernel⟩, trivial⟩) (by decide +kernel))
          case r6 =>
            refine' pss_cut ?s7 ?r7
            case s7 =>
              refine' ps_set9 (i := 6) ?ha ?hb ?hc ?hd ?he ?hf
              case ha => exact scForm.nd
              case hb => exact rfl
              case hc => exact (Or.inl rfl)
              case he => exact rfl
              case hf => exact (.inr rfl)
              case hd =>
                refine' pe_ix (X := ((cxOf CX0 P w K mg base ["_law_feed_here", "_law_world", "_law_below", "_law_way", "_law_word", "_law_heads", "_law_many"] "_law_form" (defScope sForm) f cdv A outer s H E).nox)) (ta := TMk d l ns [] (.lst many12) 2) (tb := tOp (rI0 fun i j => .int (i - j)) (tVar 3) (tC (.int 2))) ix_list ?x ?y ?hp
                case x => exact chk_is (X := ((cxOf CX0 P w K mg base ["_law_feed_here", "_law_world", "_law_below", "_law_way", "_law_word", "_law_heads", "_law_many"] "_law_form" (defScope sForm) f cdv A outer s H E).nox)) (made0 (X := ((cxOf CX0 P w K mg base ["_law_feed_here", "_law_world", "_law_below", "_law_way", "_law_word", "_law_heads", "_law_many"] "_law_form" (defScope sForm) f cdv A outer s H E).nox)) (G := []) GD hr1 (by rfl) U.mD U.D.kp U.bD ⟨rfl, Or.inr (Or.inl rfl)⟩ trivial) (by decide +kernel)
                case y => exact pe_op (X := ((cxOf CX0 P w K mg base ["_law_feed_here", "_law_world", "_law_below", "_law_way", "_law_word", "_law_heads", "_law_many"] "_law_form" (defScope sForm) f cdv A outer s H E).nox)) op_sub (pv (X := ((cxOf CX0 P w K mg base ["_law_feed_here", "_law_world", "_law_below", "_law_way", "_law_word", "_law_heads", "_law_many"] "_law_form" (defScope sForm) f cdv A outer s H E).nox)) 3) (pe_int (X := ((cxOf CX0 P w K mg base ["_law_feed_here", "_law_world", "_law_below", "_law_way", "_law_word", "_law_heads", "_law_many"] "_law_form" (defScope sForm) f cdv A outer s H E).nox)))
                case hp => exact (fun _ _ => rfl)
            case r7 =>
              refine' pss_one ?s8
              case s8 =>
                refine' ps_ret (pe_op op_catP ?l ?r)
                case l => exact pe_ix ix_list (pv 5) (pe_op op_sub (pv 3) pe_int) (fun _ _ => rfl)
                case r => exact pe_callTy call_tuple_of (by rfl) htup (by decide +kernel) (pa_cons (pe_comp (N' := ["_law_feed_here", "_law_world", "_law_below", "_law_k"]) (src := [some 0, some 1, some 2, none]) rfl (compScope_of (defScope sForm) rfl ["_law_feed_here", "_law_world", "_law_below", "_law_way", "_law_word", "_law_heads", "_law_many"] rfl (by decide +kernel)) (pi_range1 (by rfl) U.T.range (pa_n (pv 6) pa_nil))
                  (fun cl C ex s0 H0 => ⟨pg_name (i := 3) nd_form rfl (Or.inl rfl), pts_nil, pe_call ih hr (by rfl) m F.kp b .nil pass0 (pa_n (pv 0) (pa_n (pv 1) (pa_cons (pe_op op_sub (pv 2) pe_int) pa_nil)))⟩)) pa_nil)
      case fin =>
        have hne := world_ne F0 W0
        refine ⟨_, rfl, wd, .int r, rfl, get_room W0, _, _, rfl, rfl, _, rfl, wd, _, rfl, set_room W0, ?_⟩
        have F1 : Feed (upd H wd (.dK (roomKV (r - 1)))) d l ns n := F0.but2 W0
        have W1 : upd H wd (.dK (roomKV (r - 1))) wd = some (.dK (roomKV (r - 1))) := upd_same
        have B1 : But2 d wd H (upd H wd (.dK (roomKV (r - 1)))) := But2.upd
        generalize upd H wd (.dK (roomKV (r - 1))) = H1 at F1 W1 B1 ⊢
        generalize r - 1 = r1 at W1 ⊢
        refine ⟨fun σ' H' => ∃ (way : Int) (n2 : Nat), σ' = [some (.ref d), some (.ref wd), some (.int bb), some (.int way), none, none, none] ∧ 0 ≤ way ∧ way < 14 ∧ n2 ≤ n + 1 ∧ Feed H' d l ns n2 ∧ H' wd = some (.dK (roomKV r1)) ∧ But2 d wd H H', ?_, ?_⟩
        · refine ⟨n, env0 rfl, F1, by omega, fun vw H2 n2 hn2 F2 b2 Dw => ?_⟩
          obtain ⟨way, rfl, w0, w1⟩ := as_int rfl Dw
          exact ⟨way, n2, rfl, w0, w1, hn2, F2, b2 wd _ W1 hne, B1.trans (But2.of (e := wd) b2)⟩
        rintro σ2 H2 ⟨way, n2, rfl, w0, w1, hn2, F2, W2, B2⟩
        refine at_seq ?_
        refine if3 (b1 := decide (bb < 2)) (b2 := decide (r1 < 6)) (b3 := decide (way < 2)) (fun Q q => ⟨_, rfl, _, _, rfl, rfl, _, rfl, q⟩) (fun Q q => ⟨_, rfl, wd, .int r1, rfl, get_room W2, _, _, rfl, rfl, _, rfl, q⟩) (fun Q q => ⟨_, rfl, _, _, rfl, rfl, _, rfl, q⟩) ?_ ?_
        · refine ⟨n2, env0 rfl, F2, by omega, fun vq H3 n3 hn3 F3 b3 Dq => ?_⟩
          have W3 := b3 wd _ W2 hne
          have B3 := B2.trans (But2.of (e := wd) b3)
          have close : ∀ (v : V) (t : Th) (n4 : Nat) (H4 : Hp), IsTh H4 v t → (treeT t = true ∧ DpT (N + 1) t ∧ Th.sz t ≤ cS (N + 1) ∧ Th.dp t ≤ N + 1) → n4 ≤ n3 + 8 → Feed H4 d l ns n4 → But d H3 H4 → Q v H4 :=
            fun v t n4 H4 h1 h2 h3 F4 b4 => k v t n4 r1 H4 h1 h2.1 h2.2.1 h2.2.2.1 h2.2.2.2 (by omega) F4 (b4 wd _ W3 hne) (B3.trans (But2.of b4))
          rcases word6 Dq with (rfl | rfl) | rfl | rfl | rfl
          · refine ⟨_, rfl, rfl, _, rfl, ite2 (fun _ => iteT ?_) (fun g => absurd (by decide +kernel) g)⟩
            refine ⟨n3, env_cons (env0 rfl) rfl (den_oh (.inl rfl)), F3, by omega, fun v4 H4 n4 hn4 F4 b4 D4 => ?_⟩
            obtain ⟨t, th, hs⟩ := D4
            exact close v4 t n4 H4 th (oh_leaf hs N) (by omega) F4 b4
          · refine ⟨_, rfl, rfl, _, rfl, ite2 (fun g => absurd g (by decide +kernel)) (fun _ => ⟨_, rfl, rfl, _, rfl, ite2 (fun _ => ?_) (fun g => absurd (by decide +kernel) g)⟩)⟩
            refine ⟨n3, env_cons (env0 rfl) rfl (den_oh (.inr rfl)), F3, by omega, fun v4 H4 n4 hn4 F4 b4 D4 => ?_⟩
            obtain ⟨t, th, hs⟩ := D4
            exact close v4 t n4 H4 th (oh_leaf hs N) (by omega) F4 b4
          · refine ⟨_, rfl, rfl, _, rfl, ite2 (fun g => absurd g (by decide +kernel)) (fun _ => ⟨_, rfl, rfl, _, rfl, ite2 (fun g => absurd g (by decide +kernel)) (fun _ => ?_)⟩)⟩
            refine ⟨_, rfl, rfl, _, rfl, ite2 (fun g => absurd g (by decide +kernel)) (fun _ => ⟨_, rfl, rfl, _, rfl, ite2 (fun _ => ?_) (fun g => absurd (by decide +kernel) g)⟩)⟩
            refine ⟨n3, env0 rfl, F3, by omega, fun v4 H4 n4 hn4 F4 b4 D4 => ?_⟩
            obtain ⟨t, th, hs⟩ := D4
            exact close v4 t n4 H4 th (num_leaf hs N) (by omega) F4 b4
          · refine ⟨_, rfl, rfl, _, rfl, ite2 (fun g => absurd g (by decide +kernel)) (fun _ => ⟨_, rfl, rfl, _, rfl, ite2 (fun g => absurd g (by decide +kernel)) (fun _ => ?_)⟩)⟩
            refine ⟨_, rfl, rfl, _, rfl, ite2 (fun g => absurd g (by decide +kernel)) (fun _ => ⟨_, rfl, rfl, _, rfl, ite2 (fun g => absurd g (by decide +kernel)) (fun _ => ?_)⟩)⟩
            refine ⟨n3, env0 rfl, F3, by omega, fun v4 H4 n4 hn4 F4 b4 D4 => ?_⟩
            obtain ⟨t, th, hs⟩ := D4
            exact close v4 t n4 H4 th (name_leaf hs N) (by omega) F4 b4
          · refine ⟨_, rfl, rfl, _, rfl, ite2 (fun g => absurd g (by decide +kernel)) (fun _ => ⟨_, rfl, rfl, _, rfl, ite2 (fun g => absurd g (by decide +kernel)) (fun _ => ?_)⟩)⟩
            refine ⟨_, rfl, rfl, _, rfl, ite2 (fun _ => ?_) (fun g => absurd (by decide +kernel) g)⟩
            refine ⟨n3, env0 rfl, F3, by omega, fun v4 H4 n4 hn4 F4 b4 D4 => ?_⟩
            obtain ⟨t, th, hs⟩ := D4
            have := sh1 hs
            subst this
            exact close v4 _ n4 H4 th (take_tree N) (by omega) F4 b4
        · intro g1 g2 g3
          have hb2 : 2 ≤ bb := by have := of_decide_eq_false g1; omega
          have hw2 : 2 ≤ way := by have := of_decide_eq_false g3; omega
          refine ⟨n2, env0 rfl, F2, by omega, fun v4 H4 n4 hn4 F4 b4 D4 => ?_⟩
          refine ⟨n4, env_cons (env0 rfl) rfl D4, F4, by omega, fun v5 H5 n5 hn5 F5 b5 D5 => ?_⟩
          have W5 := b5 wd _ (b4 wd _ W2 hne) hne
          have B5 := (B2.trans (But2.of (e := wd) b4)).trans (But2.of (e := wd) b5)
          refine ⟨fun σ' H' => ∃ v6 n6, σ' = [some (.ref d), some (.ref wd), some (.int bb), some (.int way), none, some v6, none] ∧ n6 ≤ n + 27 ∧ Feed H' d l ns n6 ∧ H' wd = some (.dK (roomKV r1)) ∧ But2 d wd H H' ∧ Den (.lst heads12) H' v6, ?_, ?_⟩
          · refine ⟨n5, env_cons (env0 rfl) rfl D5, F5, by omega, fun v6 H6 n6 hn6 F6 b6 D6 => ?_⟩
            exact ⟨v6, n6, rfl, by omega, F6, b6 wd _ W5 hne, B5.trans (But2.of b6), D6⟩
          clear F5 D5 W5 B5 F4 D4 hn5 hn4
          rintro σ6 H6 ⟨v6, n6, rfl, hn6, F6, W6, B6, D6⟩
          have hj : (way - 2).toNat < 12 := by omega
          have ej : way - 2 = ((way - 2).toNat : Int) := by omega
          refine ⟨fun σ' H' => ∃ (i : Int) (n7 : Nat) (km : Kd), σ' = [some (.ref d), some (.ref wd), some (.int bb), some (.int way), none, some v6, some (.int i)] ∧ many12[(way - 2).toNat]? = some km ∧ Shape km (.at (.int i)) ∧ n7 ≤ n + 29 ∧ Feed H' d l ns n7 ∧ H' wd = some (.dK (roomKV r1)) ∧ But2 d wd H H' ∧ Den (.lst heads12) H' v6, ?_, ?_⟩
          · refine ⟨n6, env0 rfl, F6, by omega, fun v7 H7 n7 hn7 F7 b7 D7 => ?_⟩
            obtain ⟨p7, vs7, rfl, a7, ts7, t7, s7⟩ := of_lst D7
            have l7 := shapes_len _ _ s7
            have l7' : many12.length = 12 := rfl
            have hj7 : (way - 2).toNat < ts7.length := by omega
            obtain ⟨x7, e1, e2⟩ := ths_at vs7 t7 (List.getElem?_eq_getElem hj7)
            obtain ⟨km, e3, e4⟩ := shapes_get many12 s7 (List.getElem?_eq_getElem hj7)
            obtain ⟨i, ei⟩ := many_int e3 e4
            rw [ei] at e2 e4
            obtain ⟨rfl, _⟩ := th_at e2
            refine ⟨_, rfl, _, _, rfl, rfl, p7, vs7, way - 2, .int i, rfl, rfl, SqL.of a7, by rw [ej]; exact atI_nat e1, ?_⟩
            exact ⟨i, n7, km, rfl, e3, e4, by omega, F7, b7 wd _ W6 hne, B6.trans (But2.of b7), D6.kp (b7.kp F6)⟩
          clear F6 W6 B6 D6 hn6
          rintro σ7 H7 ⟨i, n7, km, rfl, ekm, hkm, hn7, F7, W7, B7, D7⟩
          obtain ⟨p6, vs6, rfl, a6, ts6, t6, s6⟩ := of_lst D7
          have l6 := shapes_len _ _ s6
          have l6' : heads12.length = 12 := rfl
          have hj6 : (way - 2).toNat < ts6.length := by omega
          obtain ⟨x6, e1, e2⟩ := ths_at vs6 t6 (List.getElem?_eq_getElem hj6)
          obtain ⟨kh, e3, e4⟩ := shapes_get heads12 s6 (List.getElem?_eq_getElem hj6)
          obtain ⟨hs, lo, hi, ehs, hH, i1, i2, i3, i4⟩ := way_ok e3 ekm e4 hkm
          rw [ehs] at e2
          obtain ⟨ph, hvs, rfl, ah, th⟩ := th_tup e2
          refine ⟨_, rfl, _, rfl, _, _, rfl, rfl, p6, vs6, way - 2, .ref ph, rfl, rfl, SqL.of a6, by rw [ej]; exact atI_nat e1, ?_⟩
          have hN : 1 ≤ N := by omega
          refine ⟨_, rfl, i, rfl, by omega, by omega, comp_range (lo := 0) (n := i.toNat) (fun j ys σc H' => ∃ (n' : Nat) (o : Option V) (r' : Int) (cs : List Th), σc = [some (.ref d), some (.ref wd), some (.int bb), o] ∧ Feed H' d l ns n' ∧ n' ≤ n7 + j * cC N ∧ H' wd = some (.dK (roomKV r')) ∧ IsThs H' ys cs ∧ cs.length = j ∧ (∀ c ∈ cs, treeT c = true ∧ DpT N c ∧ Th.sz c ≤ cS N ∧ Th.dp c ≤ N) ∧ But2 d wd H7 H')
            ⟨n7, none, r1, [], rfl, F7, by omega, W7, .nil, rfl, (fun c hc => by cases hc), But2.refl d wd H7⟩ ?_ ?_⟩
          · rintro j ys σc H' hj' ⟨n', o, r', cs, rfl, F', hn', W', hcs, hcl, hall, B'⟩
            have hys := IsThs.len _ hcs
            have hmul : j * cC N ≤ 5 * cC N := Nat.mul_le_mul_right _ (by omega)
            refine ⟨by have : sizeLine = 16777216 := sizeLine_eq; omega, ?_⟩
            refine ⟨_, rfl, _, rfl, _, rfl, _, _, rfl, rfl, d, l, wd, ns, n', r', bb - 1, rfl, hN, by omega, F', W', by omega, fun v t n'' r'' H'' h1 h2 h3 h4 h4' h5 F'' W'' B'' => ?_⟩
            refine nx hj' ⟨n'', _, r'', cs ++ [t], rfl, F'', by rw [Nat.succ_mul]; omega, W'', IsThs.app _ (IsThs.kp (B''.kp F' W') hcs) (.cons h1 .nil), by rw [List.length_append, hcl]; rfl, fun c hc => ?_, B'.trans B''⟩
            rcases List.mem_append.mp hc with z | z
            · exact hall c z
            · rw [List.mem_singleton] at z
              subst z
              exact ⟨h2, h3, h4, h4'⟩
          · rintro ys σc H' ⟨n', o, r', cs, rfl, F', hn', W', hcs, hcl, hall, B'⟩ q hq
            have s1 := same_upd (o := .lst ys) hq
            refine ⟨q, ys, rfl, .inl ⟨SqL.of upd_same, fun q2 hq2 => ?_⟩⟩
            have s2 := s1.trans (same_upd (o := .tup ys) hq2)
            have kp2 : Kp H7 (upd (upd H' q (.lst ys)) q2 (.tup ys)) := (B'.kp F7 W7).trans (Kp.of s2)
            have hys := IsThs.len _ hcs
            have hhl := IsThs.len _ th
            have hhs := head_sz hH
            have hhs2 := szs_len hs
            refine ⟨ph, q2, hvs, ys, rfl, rfl, kp2 _ _ ah (fun _ z => by cases z), upd_same, size_ok (by omega), fun p H9 s9 hp => ?_⟩
            have kp9 : Kp H7 H9 := kp2.trans (Kp.of s9)
            have s29 := s2.trans s9
            have hmul : i.toNat * cC N ≤ 6 * cC N := Nat.mul_le_mul_right _ (by omega)
            refine k (.ref p) (.tup (hs ++ cs)) n' r' H9 (.tup hp (IsThs.app _ (IsThs.kp kp9 th) (IsThs.kp (Kp.of s29) hcs))) (head_tree hH (by omega) (by omega) (fun c hc => (hall c hc).1)) (head_deep hH (fun c hc => (hall c hc).2.1)) ?_ ?_ (by omega) (F'.same s29) (s29 _ _ W') (B7.trans (B'.trans (But2.same s29)))
            · have hsz := szs_all cs (fun c hc => (hall c hc).2.2.1)
              have hmul2 : cs.length * cS N ≤ 6 * cS N := Nat.mul_le_mul_right _ (by omega)
              simp only [Th.sz]
              rw [szs_app, es]
              omega
            · have hdp := dps_all cs (fun c hc => (hall c hc).2.2.2)
              simp only [Th.dp]
              rw [dps_app, head_dp hH]
              omega
end
end K08

set_option Elab.async false
set_option linter.all false
set_option maxRecDepth 100000
set_option maxHeartbeats 4000000
namespace K08
open PySem L2
def bB (N : Nat) : Nat := 500000 + 60002 * N
def spBent (N : Nat) : Sp := fun vs H Q _ => ∃ (d l : Addr) (ns : List Int) (n : Nat) (v : V) (t : Th) (z : Int), vs = [.ref d, v, .int z] ∧ Feed H d l ns n ∧ n + 40 ≤ lim ∧ IsTh H v t ∧ DpT N t ∧ Th.sz t ≤ 30001 ∧ Th.dp t ≤ 11 ∧
  ∀ (v' : V) (t' : Th) n' H', IsTh H' v' t' → Th.sz t' ≤ bB N → Th.dp t' ≤ 12 + N → n' ≤ n + 40 → Feed H' d l ns n' → But d H H' → Q v' H'
theorem szs_set : ∀ (us : List Th) (i : Nat) (t : Th), szs (us.set i t) ≤ szs us + Th.sz t := by
  intro us
  induction us with
  | nil => intro i t; simp [szs]
  | cons u us ih =>
    intro i t
    cases i with
    | zero => simp only [List.set_cons_zero, szs]; omega
    | succ i => have := ih i t; simp only [List.set_cons_succ, szs]; omega
theorem dps_set : ∀ (us : List Th) (i : Nat) (t : Th), dps (us.set i t) ≤ max (dps us) (Th.dp t) := by
  intro us
  induction us with
  | nil => intro i t; simp [dps]
  | cons u us ih =>
    intro i t
    cases i with
    | zero => simp only [List.set_cons_zero, dps]; omega
    | succ i => have := ih i t; simp only [List.set_cons_succ, dps]; omega
theorem dps_filter : ∀ ts : List Th, dps (ts.filter isTup) ≤ dps ts := by
  intro ts
  induction ts with
  | nil => simp [dps]
  | cons t ts ih =>
    rw [List.filter_cons]
    split
    · rw [dps, dps]; omega
    · rw [dps]; omega
theorem ths_set {H : Hp} : ∀ (vs : List V) {us : List Th} (i : Nat) {v : V} {t : Th}, IsThs H vs us → IsTh H v t → IsThs H (vs.set i v) (us.set i t) := by
  intro vs
  induction vs with
  | nil => intro us i v t h _; cases h; exact .nil
  | cons w vs ih =>
    intro us i v t h hv
    cases h with
    | cons a b =>
      cases i with
      | zero => exact .cons hv b
      | succ i => exact .cons a (ih i b hv)
theorem ix_of {n : Nat} {i : Nat} (h : i < n) : ixN n (0 + (i : Int)) = some i := by
  unfold ixN
  rw [if_pos (by omega), if_pos (by omega)]
  congr 1
  omega
theorem at_of {xs : List V} {i : Nat} {x : V} (h : xs[i]? = some x) : atI xs (0 + (i : Int)) = some x := by
  rw [Int.zero_add]; exact atI_nat h
section
variable {P : Program} {w : World} {K : PySem.W.Frag} {mg : Str → Option Value} {base : Heap}
theorem scBent : FnScope ["_law_feed_here", "_law_e", "_law_at", "_law_inner", "_law_k", "_law_long"] ["_law_feed_here", "_law_e", "_law_at"] (defScope sBent) := ⟨rfl, rfl, rfl, by decide +kernel, rfl, by decide +kernel, by decide +kernel⟩
theorem ok_bent {f fO fP fN : Addr} {fd dO dP dN : FuncData} (F : Fun K "_law_bent" "_law_bent" sBent f fd) (b : Binds K fd ["_law_feed_here", "_law_e", "_law_at"] []) (m : mg "_law_bent" = some (.ref f)) (T : Txt0 mg) (htup : mg "tuple" = none)
    (GO : FnOk P w K mg base CX0 3 fO dO ["_law_feed_here", "_law_e"] spOdd) (FO : Fun K "_law_odd" "_law_odd" sOdd fO dO) (bO : Binds K dO ["_law_feed_here", "_law_e"] []) (mO : mg "_law_odd" = some (.ref fO))
    (GP : FnOk P w K mg base CX0 1 fP dP ["_law_e"] spLawParts) (FP : Fun K "_law_parts" "_law_parts" sLawParts fP dP) (bP : Binds K dP ["_law_e"] []) (mP : mg "_law_parts" = some (.ref fP))
    (GN : ∀ N, FnOk P w K mg base CX0 (N + 2) fN dN ["_law_e"] (spNodes N)) (FN : Fun K "_law_nodes" "_law_nodes" sLawNodes fN dN) (bN : Binds K dN ["_law_e"] []) (mN : mg "_law_nodes" = some (.ref fN)) :
    ∀ N, FnOk P w K mg base CX0 (N + 4) f fd ["_law_feed_here", "_law_e", "_law_at"] (spBent N) := by
  intro N
  induction N with
  | zero =>
    refine F.ok scBent (fun vs H Q E h => ?_) (fun cdv A outer s H vs Q E hr h => ?_)
    · obtain ⟨d, l, ns, n, v, t, z, rfl, _⟩ := h
      rfl
    · obtain ⟨d, l, ns, n, v, t, z, rfl, _, _, _, h, _⟩ := h
      exact h.elim
  | succ N ih =>
    refine F.ok scBent (fun vs H Q E h => ?_) (fun cdv A outer s H vs Q E hr h => ?_)
    · obtain ⟨d, l, ns, n, v, t, z, rfl, _⟩ := h
      rfl
    · obtain ⟨d, l, ns, n, v, t, z, rfl, F0, hn, hv, hD, hz, hdp, k⟩ := h
      have hr1 : Room 1 _ := hr.mono (by omega)
      have hr3 : Room 3 _ := hr.mono (by omega)
      have hrN : Room (N + 2) _ := hr.mono (by omega)
      obtain ⟨u, ts, rfl, hu, hrec⟩ := hD
      have e0 : Th.sz (.tup (u :: ts)) = 1 + szs (u :: ts) := by simp only [Th.sz]
      have e0' : szs (u :: ts) = Th.sz u + szs ts := by simp only [szs]
      have e3 : Th.dp (.tup (u :: ts)) = 1 + max (Th.dp u) (dps ts) := by simp only [Th.dp, dps]
      have e3' : dps (u :: ts) = max (Th.dp u) (dps ts) := by simp only [dps]
      have e1 := sz_pos u
      have e2 := szs_len ts
      have hsz : sizeLine = 16777216 := sizeLine_eq
      have ebB : bB (N + 1) = 500000 + 60002 * (N + 1) := rfl
      have ebB' : bB N = 500000 + 60002 * N := rfl
      refine' ⟨?tt, ?body, ?fin⟩
      case body =>
        refine' pss_cons ?s1 (pss_cons ?s2 (pss_cut ?s3 (pss_cut ?s4 (pss_one ?s5))))
        case s1 => exact ps_if (pt_cmpR op_eq (pv 2) pe_int (nomark _)) (pss_one (ps_ret (pe_call GO hr3 (by rfl) mO FO.kp bO .nil pass0 (pa_n (pv 0) (pa_n (pv 1) pa_nil))))) pss_nil
        case s2 => exact ps_set (i := 3) scBent.nd rfl (Or.inl rfl) (pe_call GP hr1 (by rfl) mP FP.kp bP .nil pass0 (pa_n (pv 1) pa_nil))
        case s3 => exact ps_set (i := 2) scBent.nd rfl (Or.inl rfl) (pe_op op_sub (pv 2) pe_int)
        case s4 =>
          refine' ps_for PassesOwn.never rfl (pi_range1 (by rfl) T.range (pa_c (pe_callB call_len_seq (by rfl) T.len PySem.boot_len (pa_n (pv 3) pa_nil)) pa_nil)) (pg_name (i := 4) scBent.nd rfl (Or.inl rfl)) (pss_cons ?b1 (pss_cons ?b2 (pss_one ?b3)))
          case b1 => exact ps_set (i := 5) scBent.nd rfl (Or.inl rfl) (pe_call (GN N) hrN (by rfl) mN FN.kp bN .nil pass0 (pa_cons (pe_ix ix_list (pv 3) (pv 4) (fun _ _ => rfl)) pa_nil))
          case b2 =>
            refine' ps_if ?c (pss_cons ?d1 (pss_one ps_break)) pss_nil
            case c => exact pt_chain op_le op_lt pe_int (pv 2) (pv 5)
            case d1 => exact ps_asg (pe_callH ih hr (by rfl) m F.kp b .nil pass0 (pa_n (pv 0) (pa_cons (pe_ix ix_list (pv 3) (pv 4) (fun _ _ => rfl)) (pa_n (pv 2) pa_nil)))) (pg_sub (pv 3) (pv 4) set_list)
          case b3 => exact ps_set (i := 2) scBent.nd rfl (Or.inl rfl) (pe_op op_sub (pv 2) (pv 5))
        case s5 => exact ps_ret (pe_callTy call_tuple_of (by rfl) htup (by decide +kernel) (pa_cons (pe_op op_cat (pe_callTy call_list_of (by rfl) T.list (by rfl) (pa_cons (pe_slice sl_tupP (pv 1) po_none (po_some (pe_op op_sub (pe_callB call_len_seq (by rfl) T.len PySem.boot_len (pa_n (pv 1) pa_nil)) (pe_callB call_len_seq (by rfl) T.len PySem.boot_len (pa_n (pv 3) pa_nil))))) pa_nil)) (pv 3)) pa_nil))
      case fin =>
        refine ⟨_, rfl, rfl, _, rfl, ite2 (fun g => ?_) (fun g => ?_)⟩
        · refine ⟨_, rfl, _, rfl, d, l, ns, n, v, u, ts, rfl, F0, hn, hv, by omega, by omega, fun v' t' n' H' h1 h2 h2' h3 F' B' => ?_⟩
          exact k v' t' n' H' h1 (by omega) (by omega) h3 F' B'
        · refine ⟨_, rfl, v, u, ts, rfl, hv, by omega, fun p ws H1 s1 hp0 hp hws => ?_⟩
          have hl := IsThs.len _ hws
          have hf1 := szs_filter ts
          have hf3 := dps_filter ts
          have hf2 := List.length_filter_le isTup ts
          refine ⟨fun σ' H' => σ' = [some (.ref d), some v, some (.int (z - 1)), some (.ref p), none, none] ∧ H' = H1, ⟨_, rfl, _, _, rfl, rfl, rfl, rfl⟩, ?_⟩
          rintro σ3 H3 ⟨rfl, rfl⟩
          refine ⟨fun σ' H' => ∃ (z' : Int) (o4 o5 : Option V) (n' : Nat) (us : List Th) (ws' : List V), σ' = [some (.ref d), some v, some (.int z'), some (.ref p), o4, o5] ∧ n' ≤ n + 40 ∧ Feed H' d l ns n' ∧ But d H H' ∧ H' p = some (.lst ws') ∧ IsThs H' ws' us ∧ szs us ≤ szs ts + bB N ∧ us.length ≤ ts.length ∧ dps us ≤ 12 + N, ?_, ?_⟩
          · refine ⟨_, rfl, p, ws, rfl, .inl (SqL.of hp), (ws.length : Int), rfl, by omega, by omega, for_range (fun i σ' H' => ∃ (z' : Int) (o4 o5 : Option V), σ' = [some (.ref d), some v, some (.int z'), some (.ref p), o4, o5] ∧ Same H3 H') ⟨z - 1, none, none, rfl, Same.refl _⟩ ?_ ?_⟩
            · rintro i σ' H' hi ⟨z', o4, o5, rfl, s2⟩
              have hi' : i < ws.length := by omega
              have hx : ws[i]? = some ws[i] := List.getElem?_eq_getElem hi'
              generalize ws[i] = x at hx
              obtain ⟨tx, htx, h1x⟩ := ths_get _ hws hx
              have hmem := List.mem_of_getElem? htx
              rw [List.mem_filter] at hmem
              have hst := szs_mem _ htx
              have hdt := dps_mem _ htx
              refine ⟨_, rfl, _, rfl, p, ws, 0 + (i : Int), x, rfl, rfl, SqL.of (s2 _ _ hp), at_of hx, x, tx, rfl, IsTh.kp (Kp.of (s1.trans s2)) h1x, hrec tx hmem.1 hmem.2, by omega, fun q H2 q1 q2 s3 => ?_⟩
              have s12 := s2.trans s3
              refine ⟨_, rfl, _, _, rfl, rfl, _, rfl, ite2 (fun g1 => ⟨_, rfl, _, _, rfl, rfl, _, rfl, ite2 (fun g2 => ?_) (fun g2 => ?_)⟩) (fun g1 => ⟨_, rfl, iteF ?_⟩)⟩
              · have hk : Same H (del H2 p) := fun b o e => by
                  rw [del_ne (ne_of_none e hp0)]
                  exact s12 _ _ (s1 _ _ e)
                refine ⟨_, rfl, _, rfl, _, rfl, p, ws, 0 + (i : Int), x, rfl, rfl, SqL.of (s12 _ _ hp), at_of hx, _, rfl, p, ws, s12 _ _ hp, d, l, ns, n, x, tx, z', rfl, F0.same hk, hn, IsTh.kp (Kp.of hk) h1x, hrec tx hmem.1 hmem.2, by omega, by omega, fun v' t' n' H5 h1 h2 h2' h3 F5 B5 hp5 => ?_⟩
                refine ⟨_, rfl, _, rfl, p, ws, 0 + (i : Int), i, rfl, rfl, upd_same, ix_of hi', ?_⟩
                rw [upd_upd]
                have s5 := same_upd (o := .lst (ws.set i v')) hp5
                have B6 : But d H (upd H5 p (.lst (ws.set i v'))) := (But.of hk).trans (B5.trans (But.of s5))
                refine ⟨z', some (.int (0 + (i : Int))), some (.int q), n', (ts.filter isTup).set i t', ws.set i v', rfl, h3, F5.same s5, B6, upd_same, ths_set _ i (IsThs.kp (B6.kp F0) hws) (IsTh.kp (Kp.of s5) h1), ?_, ?_, ?_⟩
                · have := szs_set (ts.filter isTup) i t'
                  omega
                · rw [List.length_set]; exact hf2
                · have := dps_set (ts.filter isTup) i t'
                  omega
              · exact ⟨_, rfl, _, rfl, _, _, rfl, rfl, _, _, _, rfl, s12⟩
              · exact ⟨_, rfl, _, rfl, _, _, rfl, rfl, _, _, _, rfl, s12⟩
            · rintro σ' H' ⟨z', o4, o5, rfl, s2⟩
              exact ⟨z', o4, o5, n, ts.filter isTup, ws, rfl, by omega, F0.same (s1.trans s2), But.of (s1.trans s2), s2 _ _ hp, IsThs.kp (Kp.of (s1.trans s2)) hws, by omega, hf2, by omega⟩
          clear hp hws hl s1
          rintro σ5 H5 ⟨z', o4, o5, n5, us, ws5, rfl, hn5, F5, B5, hp5, hws5, hsz5, hlen5, hdp5⟩
          obtain ⟨a, vs, rfl, a1, a2⟩ := th_tup (IsTh.kp (B5.kp F0) hv)
          have hl5 := IsThs.len _ hws5
          have hla := IsThs.len _ a2
          have hla2 : (u :: ts).length = ts.length + 1 := List.length_cons
          refine ⟨_, rfl, _, rfl, a, vs, rfl, .inr (SqT.of a1), _, rfl, p, ws5, rfl, .inl (SqL.of hp5), _, _, rfl, rfl, _, rfl, a, vs, rfl, a1, fun q H6 s6 hq => ?_⟩
          obtain ⟨cs, hcs, hcz, hcd⟩ := ths_cut a2 none (some ((vs.length : Int) - (ws5.length : Int)))
          have hcl := IsThs.len _ hcs
          have hcl2 := cutV_length vs none (some ((vs.length : Int) - (ws5.length : Int)))
          refine ⟨q, _, rfl, .inr (SqT.of hq), fun q2 hq2 => ?_⟩
          have s7 := s6.trans (same_upd (o := .lst (cutV vs none (some ((vs.length : Int) - (ws5.length : Int))))) hq2)
          refine ⟨_, rfl, q2, p, _, ws5, rfl, rfl, upd_same, s7 _ _ hp5, by omega, fun q3 hq3 => ?_⟩
          have s8 := s7.trans (same_upd (o := .lst (cutV vs none (some ((vs.length : Int) - (ws5.length : Int))) ++ ws5)) hq3)
          refine ⟨q3, _, rfl, .inl ⟨SqL.of upd_same, fun q4 hq4 => ?_⟩⟩
          have s9 := s8.trans (same_upd (o := .tup (cutV vs none (some ((vs.length : Int) - (ws5.length : Int))) ++ ws5)) hq4)
          refine k (.ref q4) (.tup (cs ++ us)) n5 _ (.tup upd_same (IsThs.app _ (IsThs.kp (Kp.of s9) hcs) (IsThs.kp (Kp.of s9) hws5))) ?_ ?_ hn5 (F5.same s9) (B5.trans (But.of s9))
          · simp only [Th.sz]
            rw [szs_app]
            omega
          · simp only [Th.dp]
            rw [dps_app]
            omega
end
end K08

set_option Elab.async false
set_option linter.all false
set_option maxRecDepth 100000
set_option maxHeartbeats 4000000
namespace K08
open PySem L2
abbrev lawTh (t : Th) : Bool := lawB nameB signB t
def own8V : List V := [.str "own", .str "hole", .str "num", .str "name", .str "op", .str "set", .str "again", .str "call"]
def do3V : List V := [.str "do", .str "again", .str "call"]
def leastL : List (Str × V) := [("own", .int 0), ("hole", .int 0), ("num", .int 0), ("name", .int 0), ("take", .int 0), ("op", .int 2), ("pick", .int 3), ("let", .int 2), ("set", .int 1), ("say", .int 1)]
def leastM : List (Key × V) := mergeK [] (keyed leastL)
theorem leastM_eq : leastM = keyed leastL := by with_unfolding_all rfl
def leastK : Wd → Option Int
  | .own | .hole | .num | .name | .take => some 0
  | .op | .lett => some 2
  | .pick => some 3
  | .sett | .say => some 1
  | _ => none
theorem least_k (k : Wd) : valV leastM (Sum.inr (wordOf k)) = (leastK k).map V.int := by
  rw [leastM_eq]
  cases k <;> with_unfolding_all rfl
theorem in8_k (k : Wd) : inV (.str (wordOf k)) own8V = hasOwn k := by cases k <;> decide +kernel
theorem kind_no {x : Str} (h : kindOf x = none) : ∀ k : Wd, x ≠ wordOf k := by
  intro k z
  subst z
  cases k <;> exact absurd h (by decide +kernel)
theorem in8_no {x : Str} (h : kindOf x = none) : inV (.str x) own8V = false := by
  cases q : inV (.str x) own8V with
  | false => rfl
  | true =>
    exfalso
    have hn := kind_no h
    have e : own8V = [wordOf .own, wordOf .hole, wordOf .num, wordOf .name, wordOf .op, wordOf .sett, wordOf .again, wordOf .call].map V.str := rfl
    rw [e] at q
    have := (inV_strs x _).mp q
    simp only [List.mem_cons, List.not_mem_nil, or_false] at this
    rcases this with z | z | z | z | z | z | z | z <;> exact hn _ z
theorem do3_no {x : Str} (h : kindOf x = none) : inV (.str x) do3V = false := by
  cases q : inV (.str x) do3V with
  | false => rfl
  | true =>
    exfalso
    have hn := kind_no h
    have e : do3V = [wordOf .dow, wordOf .again, wordOf .call].map V.str := rfl
    rw [e] at q
    have := (inV_strs x _).mp q
    simp only [List.mem_cons, List.not_mem_nil, or_false] at this
    rcases this with z | z | z <;> exact hn _ z
theorem val_no : ∀ (kvs : List (Str × V)) {x : Str}, (∀ p ∈ kvs, p.1 ≠ x) → valV (keyed kvs) (Sum.inr x) = none := by
  intro kvs
  induction kvs with
  | nil => intro x _; rfl
  | cons p kvs ih =>
    intro x h
    show valV ((Sum.inr p.1, p.2) :: keyed kvs) (Sum.inr x) = none
    rw [valV_neg (by intro z; injection z with z; exact h p (List.mem_cons_self ..) z)]
    exact ih (fun q hq => h q (List.mem_cons_of_mem _ hq))
theorem least_no {x : Str} (h : kindOf x = none) : valV leastM (Sum.inr x) = none := by
  rw [leastM_eq]
  refine val_no leastL (fun p hp z => ?_)
  have hn := kind_no h
  have e : ∀ p ∈ leastL, ∃ k : Wd, p.1 = wordOf k := by
    intro p hp
    simp only [leastL, List.mem_cons, List.not_mem_nil, or_false] at hp
    rcases hp with rfl | rfl | rfl | rfl | rfl | rfl | rfl | rfl | rfl | rfl
    · exact ⟨.own, rfl⟩
    · exact ⟨.hole, rfl⟩
    · exact ⟨.num, rfl⟩
    · exact ⟨.name, rfl⟩
    · exact ⟨.take, rfl⟩
    · exact ⟨.op, rfl⟩
    · exact ⟨.pick, rfl⟩
    · exact ⟨.lett, rfl⟩
    · exact ⟨.sett, rfl⟩
    · exact ⟨.say, rfl⟩
  obtain ⟨k, hk⟩ := e p hp
  exact hn k (z ▸ hk)
theorem get_least {H : Hp} {d : Addr} {x : Str} (h : H d = some (.dK leastM)) : DGet H d (.str x) (valV leastM (Sum.inr x)) := DGet.k (k := Sum.inr x) h
theorem count_least {k : Wd} {m : Int} {n : Nat} (h : leastK k = some m) : countB k n = decide ((n : Int) = m) := by
  have e : ∀ (a : Nat), (a : Int) = m → decide (n = a) = decide ((n : Int) = m) := fun a ha => by
    rw [Bool.eq_iff_iff, decide_eq_true_iff, decide_eq_true_iff]; omega
  cases k <;> first | (cases h; exact e _ rfl) | cases h
theorem count_none {x : Str} {k : Wd} {n : Nat} (hk : kindOf x = some k) (h : leastK k = none) (hb : ¬ ((if (!decide (V.str x = V.str "call")) then (1 : Int) else 0) ≤ n ∧ n ≤ 6)) : countB k n = false := by
  have ex := kind_word hk
  subst ex
  cases q : countB k n with
  | false => rfl
  | true =>
    exfalso
    apply hb
    cases k with
    | dow =>
      have q' : (decide (1 ≤ n) && decide (n ≤ 6)) = true := q
      rw [Bool.and_eq_true, decide_eq_true_iff, decide_eq_true_iff] at q'
      rw [show (!decide (V.str (wordOf .dow) = V.str "call")) = true by decide +kernel]
      exact ⟨by show (1 : Int) ≤ n; omega, q'.2⟩
    | again =>
      have q' : (decide (1 ≤ n) && decide (n ≤ 6) && decide (n = 1)) = true := q
      rw [Bool.and_eq_true, Bool.and_eq_true, decide_eq_true_iff, decide_eq_true_iff, decide_eq_true_iff] at q'
      rw [show (!decide (V.str (wordOf .again) = V.str "call")) = true by decide +kernel]
      exact ⟨by show (1 : Int) ≤ n; omega, q'.1.2⟩
    | call =>
      have q' : decide (n ≤ 6) = true := q
      rw [decide_eq_true_iff] at q'
      rw [show (!decide (V.str (wordOf .call) = V.str "call")) = false by decide +kernel]
      exact ⟨by show (0 : Int) ≤ n; omega, q'⟩
    | _ => cases h
theorem count_more {x : Str} {k : Wd} {n : Nat} (hk : kindOf x = some k) (h : leastK k = none) (hb : (if (!decide (V.str x = V.str "call")) then (1 : Int) else 0) ≤ n ∧ n ≤ 6) : countB k n = (!decide (V.str x = V.str "again") || decide (n = 1)) := by
  have ex := kind_word hk
  subst ex
  cases k with
  | dow =>
    rw [show (!decide (V.str (wordOf .dow) = V.str "call")) = true by decide +kernel] at hb
    have hb' : (1 : Int) ≤ n := hb.1
    rw [show (!decide (V.str (wordOf .dow) = V.str "again")) = true by decide +kernel, Bool.true_or]
    show (decide (1 ≤ n) && decide (n ≤ 6)) = true
    rw [decide_eq_true (by omega), decide_eq_true hb.2]; rfl
  | again =>
    rw [show (!decide (V.str (wordOf .again) = V.str "call")) = true by decide +kernel] at hb
    have hb' : (1 : Int) ≤ n := hb.1
    rw [show (!decide (V.str (wordOf .again) = V.str "again")) = false by decide +kernel, Bool.false_or]
    show (decide (1 ≤ n) && decide (n ≤ 6) && decide (n = 1)) = _
    rw [decide_eq_true (show 1 ≤ n by omega), decide_eq_true hb.2]; rfl
  | call =>
    rw [show (!decide (V.str (wordOf .call) = V.str "again")) = true by decide +kernel, Bool.true_or]
    exact decide_eq_true hb.2
  | _ => cases h
theorem laws_map : ∀ rs : List Th, (rs.map lawTh).all id = lawsB nameB signB rs := by
  intro rs
  induction rs with
  | nil => simp [lawsB]
  | cons r rs ih => rw [List.map_cons, List.all_cons, ih, lawsB]; rfl
def spLawIs (M : Nat) : Sp := fun vs H Q _ => ∃ (v : V) (t : Th), vs = [v] ∧ IsTh H v t ∧ Th.dp t < M ∧ Th.sz t ≤ 1000000 ∧ ∀ H', Same H H' → Q (.bl (lawTh t)) H'
section
variable {P : Program} {w : World} {K : PySem.W.Frag} {mg : Str → Option Value} {base : Heap}
theorem scLawIs : FnScope ["_law_thing", "_law_rest", "_law_least"] ["_law_thing"] (defScope sLawIs) := ⟨rfl, rfl, rfl, by decide +kernel, rfl, by decide +kernel, by decide +kernel⟩
theorem ok_lawis {f fS : Addr} {fd dS : FuncData} (F : Fun K "_law_is" "_law_is" sLawIs f fd) (b : Binds K fd ["_law_thing"] []) (m : mg "_law_is" = some (.ref f)) (T : TxtT mg) (KI : Kits K) (hlist : mg "list" = none)
    (GS : FnOk P w K mg base CX0 2 fS dS ["_law_word", "_law_thing"] spSecond) (FS : Fun K "_law_second" "_law_second" sLawSecond fS dS) (bS : Binds K dS ["_law_word", "_law_thing"] []) (mS : mg "_law_second" = some (.ref fS)) :
    ∀ M, FnOk P w K mg base CX0 (M + 3) f fd ["_law_thing"] (spLawIs M) := by
  intro M
  induction M with
  | zero =>
    refine F.ok scLawIs (fun vs H Q E h => ?_) (fun cdv A outer s H vs Q E hr h => ?_)
    · obtain ⟨v, t, rfl, _⟩ := h
      rfl
    · obtain ⟨v, t, rfl, _, h, _⟩ := h
      exact absurd h (Nat.not_lt_zero _)
  | succ M ih =>
    refine F.ok scLawIs (fun vs H Q E h => ?_) (fun cdv A outer s H vs Q E hr h => ?_)
    · obtain ⟨v, t, rfl, _⟩ := h
      rfl
    · obtain ⟨v, t, rfl, hv, hdp, hz, k⟩ := h
      have hu := hu_of hr
      have hu0 := hr.units0
      have hr2 : Room 2 _ := hr.mono (by omega)
      have hsz : sizeLine = 16777216 := sizeLine_eq
      refine' ⟨?tt, ?body, ?fin⟩
      case body =>
        refine' pss_cons ?s1 ?q0
        case s1 =>
          refine' ps_if ?c (pss_one (ps_ret pe_bl)) pss_nil
          case c => exact (pw_or (pt_not (pt_val (pe_callB call_isinst (by rfl) T.isi (by decide +kernel) (pa_n (pv 0) (pa_n (pe_bltn (v := .ty "tuple") (by rfl) T.tup (by decide +kernel) rfl) pa_nil)))))
            (pw_or (pt_cmpR op_eq (pe_callB call_len_seq (by rfl) T.len PySem.boot_len (pa_n (pv 0) pa_nil)) pe_int (nomark _))
            (pw_or1 (pt_not (pt_val (pe_callB call_isinst (by rfl) T.isi (by decide +kernel) (pa_cons (pe_ix ix_tup (pv 0) pe_int (fun _ _ => rfl)) (pa_n (pe_bltn (v := .ty "str") (by rfl) T.str (by decide +kernel) rfl) pa_nil)))))))).pt
        case q0 =>
          refine' pss_cut ?s2 ?q1
          case s2 => exact ps_set (i := 1) scLawIs.nd rfl (Or.inl rfl) (pe_callTy call_list_of (by rfl) hlist (by rfl) (pa_cons (pe_slice sl_tupP (pv 0) (po_some pe_int) po_none) pa_nil))
          case q1 =>
            refine' pss_cut ?s3 ?q2
            case s3 =>
              refine' ps_if ?c (pss_one ?b) pss_nil
              case c => exact pt_cmpR op_in_seq (pe_ix ix_tup (pv 0) pe_int (fun _ _ => rfl)) (pe_consts (vs := own8V) (by decide +kernel)) (by with_unfolding_all rfl)
              case b =>
                refine' ps_if ?c2 (pss_one (ps_ret pe_bl)) pss_nil
                case c2 => exact (pw_or (pt_cmpR (op_eq_nil hu0) (pv 1) (pe_lst pa_nil) (nomark _)) (pw_or1 (pt_not (pt_val (pe_call GS hr2 (by rfl) mS FS.kp bS .nil pass0 (pa_cons (pe_ix ix_tup (pv 0) pe_int (fun _ _ => rfl)) (pa_c (pe_bm PySem.F.plainAttrs_list PySem.F.slot_list_pop PySem.F.type_list_pop mt_popAt (pv 1) (pa_k pe_int pa_nil)) pa_nil))))))).pt
            case q2 =>
              refine' pss_cut ?s4 ?q3
              case s4 =>
                refine' ps_set9 (i := 2) ?ha ?hb ?hc ?hd ?he ?hf
                case ha => exact scLawIs.nd
                case hb => exact rfl
                case hc => exact (Or.inl rfl)
                case he => exact rfl
                case hf => exact (.inr rfl)
                case hd =>
                  refine' @pe_dict ((cxOf CX0 P w K mg base ["_law_thing", "_law_rest", "_law_least"] "_law_is" (defScope sLawIs) f cdv A outer s H E).nox) _ leastL ?q
                  case q => decide +kernel
              case q3 =>
                refine' pss_cut ?s5 ?q4
                case s5 =>
                  refine' ps_if ?c (pss_one (ps_ret pe_bl)) pss_nil
                  case c => exact (pw_and (pt_cmp (pc_din hu (pe_ix ix_tup (pv 0) pe_int (fun _ _ => rfl)) (pv 2)) (by with_unfolding_all rfl)) (pw_and1 (pt_cmpR op_ne (pe_callB call_len_seq (by rfl) T.len PySem.boot_len (pa_n (pv 1) pa_nil)) (pe_dget hu (pv 2) (pe_ix ix_tup (pv 0) pe_int (fun _ _ => rfl)) (fun _ _ => rfl)) (nomark _)))).pt
                case q4 =>
                  refine' pss_cut ?s6 ?q5
                  case s6 =>
                    refine' ps_if ?c (pss_one (ps_ret pe_bl)) pss_nil
                    case c => exact (pw_and (pt_cmp (pc_dnotin hu (pe_ix ix_tup (pv 0) pe_int (fun _ _ => rfl)) (pv 2)) (by with_unfolding_all rfl)) (pw_and1 (pt_not (pt_chain op_le op_le (pe_callTy call_int1 (by rfl) T.int (by decide +kernel) (pa_cons (pe_cmpR op_ne (pe_ix ix_tup (pv 0) pe_int (fun _ _ => rfl)) pe_str (nomark _)) pa_nil)) (pe_callB call_len_seq (by rfl) T.len PySem.boot_len (pa_n (pv 1) pa_nil)) pe_int)))).pt
                  case q5 =>
                    refine' pss_cut ?s7 ?q6
                    case s7 =>
                      refine' ps_if ?c (pss_one (ps_ret pe_bl)) pss_nil
                      case c => exact (pw_and (pt_cmp (pc_dnotin hu (pe_ix ix_tup (pv 0) pe_int (fun _ _ => rfl)) (pv 2)) (by with_unfolding_all rfl)) (pw_and1 (pt_cmpR op_notIn_seq (pe_ix ix_tup (pv 0) pe_int (fun _ _ => rfl)) (pe_consts (vs := do3V) (by decide +kernel)) (by with_unfolding_all rfl)))).pt
                    case q6 =>
                      refine' pss_one ?s8
                      case s8 =>
                        refine' ps_ret (pe_and ?l (pe_one ?r))
                        case l => exact pe_or (pe_cmpR op_ne (pe_ix ix_tup (pv 0) pe_int (fun _ _ => rfl)) pe_str (nomark _)) (pe_one (pe_cmpR op_eq (pe_callB call_len_seq (by rfl) T.len PySem.boot_len (pa_n (pv 1) pa_nil)) pe_int (nomark _)))
                        case r => exact pe_callB (call_all_of rfl) (by rfl) T.all (by decide +kernel) (pa_cons (pe_comp (N' := ["_law_one"]) (src := [none]) rfl (compScope_of (defScope sLawIs) rfl ["_law_thing", "_law_rest", "_law_least"] rfl (by decide +kernel)) (pi_list (pv 1))
                          (fun cl C ex s0 H0 => ⟨pg_name (i := 0) (nd1 _) rfl (Or.inl rfl), pts_nil, pe_call ih hr (by rfl) m F.kp b .nil pass0 (pa_n (pv 0) pa_nil)⟩)) pa_nil)
      case fin =>
        have no : isTup t = false → lawTh t = false := fun h => by
          cases t with
          | «at» v => simp [lawTh, lawB]
          | lst xs => simp [lawTh, lawB]
          | tup xs => cases h
        cases ht : isTup t with
        | false =>
          refine ⟨_, rfl, _, _, _, _, rfl, th_ty hv, KI.tup hv, _, rfl, ?_⟩
          rw [ht]
          have e := no ht
          exact iteT (iteT (e ▸ k H (Same.refl H)))
        | true =>
        cases t with
        | «at» v => cases ht
        | lst xs => cases ht
        | tup xs =>
        obtain ⟨a, vs, rfl, a1, a2⟩ := th_tup hv
        refine ⟨_, rfl, _, _, _, _, rfl, th_ty hv, KI.tup hv, _, rfl, ?_⟩
        rw [ht]
        refine iteF ⟨_, rfl, a, vs, rfl, .inr (SqT.of a1), rfl, _, rfl, ?_⟩
        cases a2 with
        | nil =>
          refine ite2 (fun _ => iteT ?_) (fun g => absurd (by decide +kernel) g)
          have e : lawTh (.tup []) = false := by simp [lawTh, lawB, lawT]
          exact e ▸ k H (Same.refl H)
        | @cons v0 vs' u ts c1 c2 =>
          refine ite2 (fun g => ?_) (fun _ => ?_)
          · exfalso
            have g' := of_decide_eq_true g
            injection g' with g'
            rw [List.length_cons] at g'
            omega
          refine ⟨_, rfl, a, v0 :: vs', 0, v0, rfl, rfl, SqT.of a1, atI_nat (j := 0) rfl, _, _, _, _, rfl, th_ty c1, KI.str c1, _, rfl, ?_⟩
          cases hs : isStrT u with
          | false =>
            have e : lawTh (.tup (u :: ts)) = false := by
              cases u with
              | «at» w =>
                cases w with
                | str x => cases hs
                | _ => simp [lawTh, lawB, lawT]
              | tup _ => simp [lawTh, lawB, lawT]
              | lst _ => simp [lawTh, lawB, lawT]
            exact iteT (e ▸ k H (Same.refl H))
          | true =>
            obtain ⟨x, rfl, rfl, hx⟩ := str_is c1 hs
            refine iteF ?_
            have hsz1 : Th.sz (.tup (.at (.str x) :: ts)) = 1 + (1 + szs ts) := by simp only [Th.sz, szs]
            have hdp1 : Th.dp (.tup (.at (.str x) :: ts)) = 1 + max 0 (dps ts) := by simp only [Th.dp, dps]
            have hlts := szs_len ts
            -- rest
            refine ⟨fun σ' H' => ∃ p, σ' = [some (.ref a), some (.ref p), none] ∧ H p = none ∧ Same H H' ∧ H' p = some (.lst vs'), ?_, ?_⟩
            · refine ⟨_, rfl, _, rfl, a, .str x :: vs', rfl, a1, fun p1 H1 s1 hp1 => ⟨p1, _, rfl, .inr (SqT.of hp1), fun p hp => ?_⟩⟩
              rw [cut1q]
              exact ⟨p, rfl, same_none s1 hp, s1.trans (same_upd hp), upd_same⟩
            rintro σ2 H2 ⟨p, rfl, hp0, s2, hp2⟩
            have hlv := IsThs.len _ c2
            -- what stands behind the word
            refine ⟨fun σ' H' => ∃ (ws : List V) (rs : List Th), σ' = [some (.ref a), some (.ref p), none] ∧ Same H H' ∧ H' p = some (.lst ws) ∧ IsThs H ws rs ∧ szs rs ≤ szs ts ∧ dps rs ≤ dps ts ∧ lawTh (.tup (.at (.str x) :: ts)) = (match kindOf x with | none => false | some kk => countB kk rs.length && lawsB nameB signB rs), ?_, ?_⟩
            · refine ⟨_, rfl, a, .str x :: vs', 0, .str x, rfl, rfl, SqT.of (s2 _ _ a1), atI_nat (j := 0) rfl, (by decide +kernel), fun q hq => ⟨q, own8V, rfl, .inl (SqL.of upd_same), rfl, by decide +kernel, _, rfl, ?_⟩⟩
              have s3 := s2.trans (same_upd (o := .lst own8V) hq)
              have hp3 := same_upd (o := .lst own8V) hq _ _ hp2
              generalize upd H2 q (.lst own8V) = H3 at s3 hp3 ⊢
              show if inV (.str x) own8V = true then _ else _
              cases hk : kindOf x with
              | none =>
                rw [in8_no hk]
                refine iteF ⟨vs', ts, rfl, s3, hp3, c2, Nat.le_refl _, Nat.le_refl _, ?_⟩
                simp [lawTh, lawB, lawT, hk]
              | some kk =>
                have ex := kind_word hk
                cases ho : hasOwn kk with
                | false =>
                  rw [ex, in8_k, ho]
                  refine iteF ⟨vs', ts, rfl, s3, hp3, c2, Nat.le_refl _, Nat.le_refl _, ?_⟩
                  rw [← ex]
                  simp [lawTh, lawB, lawT, hk, ho]
                | true =>
                  rw [show inV (.str x) own8V = true by rw [ex, in8_k, ho]]
                  refine iteT ?_
                  refine ⟨_, rfl, Nat.zero_le _, fun q2 hq2 => ⟨p, q2, vs', rfl, rfl, SqL.of (same_upd hq2 _ _ hp3), SqL.of upd_same, _, rfl, ?_⟩⟩
                  have s4 := s3.trans (same_upd (o := .lst []) hq2)
                  have hp4 := same_upd (o := .lst []) hq2 _ _ hp3
                  generalize upd H3 q2 (.lst []) = H4 at s4 hp4 ⊢
                  cases c2 with
                  | nil =>
                    refine iteT (iteT ?_)
                    have e : lawTh (.tup [.at (.str x)]) = false := by simp [lawTh, lawB, lawT, hk, ho, lawO]
                    exact e ▸ k H4 s4
                  | @cons w0 ws' y ts' y1 y2 =>
                    refine iteF ?_
                    refine ⟨_, rfl, a, .str x :: w0 :: ws', 0, .str x, rfl, rfl, SqT.of (s4 _ _ a1), atI_nat (j := 0) rfl, _, rfl, .inl ⟨rfl, _, SqL.of hp4⟩, p, w0 :: ws', 0, 0, w0, rfl, rfl, hp4, by decide, by decide, ?_, rfl, x, kk, w0, y, rfl, hk, ho, ?_, fun H5 s5 => ⟨_, rfl, ?_⟩⟩
                    · exact seqIndex_of (by decide) (by rw [List.length_cons]; omega)
                    · exact IsTh.kp (Kp.of (fun b o e => by rw [upd_ne (ne_of_none e hp0)]; exact s4 _ _ e)) y1
                    · have s6 : Same H H5 := fun b o e => s5 _ _ (by rw [upd_ne (ne_of_none e hp0)]; exact s4 _ _ e)
                      have hp6 : H5 p = some (.lst ws') := s5 _ _ upd_same
                      have el : lawTh (.tup (.at (.str x) :: y :: ts')) = (secondB nameB signB kk y && (countB kk ts'.length && lawsB nameB signB ts')) := by simp [lawTh, lawB, lawT, hk, ho, lawO]
                      cases h2 : secondB nameB signB kk y with
                      | false =>
                        rw [h2, Bool.false_and] at el
                        exact iteT (el ▸ k H5 s6)
                      | true =>
                        rw [h2, Bool.true_and] at el
                        have e1 : szs (y :: ts') = Th.sz y + szs ts' := by simp only [szs]
                        have e2 : dps (y :: ts') = max (Th.dp y) (dps ts') := by simp only [dps]
                        exact iteF ⟨ws', ts', rfl, s6, hp6, y2, by omega, by omega, el⟩
            clear hp2 s2
            rintro σ3 H3 ⟨ws, rs, rfl, s3, hp3, hws, hrz, hrd, hlaw⟩
            have hlw := IsThs.len _ hws
            have hlr := szs_len rs
            -- the least counts
            refine ⟨fun σ' H' => ∃ dd, σ' = [some (.ref a), some (.ref p), some (.ref dd)] ∧ Same H H' ∧ H' p = some (.lst ws) ∧ H' dd = some (.dK leastM), ?_, ?_⟩
            · intro dd hdd
              exact ⟨dd, rfl, s3.trans (same_upd hdd), same_upd hdd _ _ hp3, upd_same⟩
            clear hp3 s3
            rintro σ4 H4 ⟨dd, rfl, s4, hp4, hd4⟩
            have ha4 := SqT.of (K := K) (s4 _ _ a1)
            have no4 : ∀ {bb : Bool}, lawTh (.tup (.at (.str x) :: ts)) = bb → bb = false → Q (.bl false) H4 := fun {bb} e1 e2 => by
              rw [e2] at e1
              exact e1 ▸ k H4 s4
            have hlo : (∃ kk mm, kindOf x = some kk ∧ leastK kk = some mm ∧ valV leastM (Sum.inr x) = some (.int mm)) ∨ (valV leastM (Sum.inr x) = none ∧ (kindOf x = none ∨ ∃ kk, kindOf x = some kk ∧ leastK kk = none)) := by
              cases hk : kindOf x with
              | none => exact .inr ⟨least_no hk, .inl rfl⟩
              | some kk =>
                have ex := kind_word hk
                have e := least_k kk
                rw [← ex] at e
                cases hl : leastK kk with
                | none => rw [hl] at e; exact .inr ⟨e, .inr ⟨kk, rfl, hl⟩⟩
                | some mm => rw [hl] at e; exact .inl ⟨kk, mm, rfl, hl, e⟩
            -- the count
            refine ⟨fun σ' H' => (σ' = [some (.ref a), some (.ref p), some (.ref dd)] ∧ H' = H4) ∧ ∀ kk mm, kindOf x = some kk → leastK kk = some mm → (rs.length : Int) = mm, ?_, ?_⟩
            · refine ⟨_, rfl, a, .str x :: vs', 0, .str x, rfl, rfl, SqT.of (s4 _ _ a1), atI_nat (j := 0) rfl, _, rfl, dd, _, rfl, get_least hd4, _, rfl, ?_⟩
              rcases hlo with ⟨kk, mm, hk, hl, hv4⟩ | ⟨hv4, hno⟩
              · rw [hv4]
                refine iteT ⟨_, rfl, p, ws, rfl, .inl (SqL.of hp4), _, rfl, _, rfl, a, .str x :: vs', 0, .str x, rfl, rfl, SqT.of (s4 _ _ a1), atI_nat (j := 0) rfl, dd, .int mm, rfl, hv4 ▸ get_least hd4, rfl, _, rfl, ite2 (fun g => ?_) (fun g => ?_)⟩
                · refine no4 hlaw ?_
                  rw [hk]
                  show (countB kk rs.length && _) = false
                  rw [count_least hl]
                  have g' : ¬ ((rs.length : Int) = mm) := fun z => by
                    rw [Bool.not_eq_true', decide_eq_false_iff_not] at g
                    exact g (by rw [hlw, z])
                  rw [decide_eq_false g', Bool.false_and]
                · refine ⟨⟨rfl, rfl⟩, fun kk' mm' hk' hl' => ?_⟩
                  rw [hk] at hk'; cases hk'
                  rw [hl] at hl'; cases hl'
                  rw [Bool.not_eq_true', decide_eq_false_iff_not, Classical.not_not] at g
                  injection g with g
                  omega
              · rw [hv4]
                refine iteF (iteF ⟨⟨rfl, rfl⟩, fun kk' mm' hk' hl' => ?_⟩)
                rcases hno with hno | ⟨kk, hno, hl⟩
                · rw [hno] at hk'; cases hk'
                · rw [hno] at hk'; cases hk'
                  rw [hl] at hl'; cases hl'
            rintro σ5 H5 ⟨⟨rfl, rfl⟩, h5⟩
            -- the bounds
            refine ⟨fun σ' H' => (σ' = [some (.ref a), some (.ref p), some (.ref dd)] ∧ H' = H5) ∧ (valV leastM (Sum.inr x) = none → (if (!decide (V.str x = V.str "call")) then (1 : Int) else 0) ≤ rs.length ∧ rs.length ≤ 6), ?_, ?_⟩
            · refine ⟨_, rfl, a, .str x :: vs', 0, .str x, rfl, rfl, SqT.of (s4 _ _ a1), atI_nat (j := 0) rfl, _, rfl, dd, _, rfl, get_least hd4, _, rfl, ?_⟩
              rcases hlo with ⟨kk, mm, hk, hl, hv4⟩ | ⟨hv4, hno⟩
              · rw [hv4]
                exact iteF (iteF ⟨⟨rfl, rfl⟩, fun z => by cases z⟩)
              · rw [hv4]
                have out : ¬ ((if (!decide (V.str x = V.str "call")) then (1 : Int) else 0) ≤ rs.length ∧ rs.length ≤ 6) → Q (.bl false) H5 := fun hb => by
                  refine no4 hlaw ?_
                  rcases hno with hno | ⟨kk, hno, hl⟩
                  · rw [hno]
                  · rw [hno]
                    show (countB kk rs.length && _) = false
                    rw [count_none hno hl hb, Bool.false_and]
                refine iteT ⟨_, rfl, a, .str x :: vs', 0, .str x, rfl, rfl, SqT.of (s4 _ _ a1), atI_nat (j := 0) rfl, rfl, .inr ⟨_, rfl, _, rfl, p, ws, rfl, .inl (SqL.of hp4), _, _, rfl, rfl, _, rfl, ite2 (fun g1 => ⟨_, _, rfl, rfl, _, rfl, ite2 (fun g2 => ?_) (fun g2 => ?_)⟩) (fun g1 => ⟨_, rfl, iteT ?_⟩)⟩⟩
                · refine out (fun z => ?_)
                  rw [Bool.not_eq_true', decide_eq_false_iff_not] at g2
                  exact g2 (by omega)
                · refine ⟨⟨rfl, rfl⟩, fun _ => ?_⟩
                  have g1' := of_decide_eq_true g1
                  rw [Bool.not_eq_true', decide_eq_false_iff_not, Classical.not_not] at g2
                  rw [hlw] at g1'
                  exact ⟨g1', by omega⟩
                · refine out (fun z => ?_)
                  exact g1 (decide_eq_true (by rw [hlw]; exact z.1))
            rintro σ6 H6 ⟨⟨rfl, rfl⟩, h6⟩
            -- the words
            refine ⟨fun σ' H' => σ' = [some (.ref a), some (.ref p), some (.ref dd)] ∧ Same H H' ∧ H' p = some (.lst ws) ∧ lawTh (.tup (.at (.str x) :: ts)) = ((!decide (V.str x = V.str "again") || decide (rs.length = 1)) && lawsB nameB signB rs), ?_, ?_⟩
            · refine ⟨_, rfl, a, .str x :: vs', 0, .str x, rfl, rfl, SqT.of (s4 _ _ a1), atI_nat (j := 0) rfl, _, rfl, dd, _, rfl, get_least hd4, _, rfl, ?_⟩
              rcases hlo with ⟨kk, mm, hk, hl, hv4⟩ | ⟨hv4, hno⟩
              · rw [hv4]
                refine iteF (iteF ⟨rfl, s4, hp4, ?_⟩)
                rw [hk] at hlaw
                rw [hlaw]
                show (countB kk rs.length && _) = _
                rw [count_least hl, decide_eq_true (h5 kk mm hk hl)]
                have ex := kind_word hk
                have e : decide (V.str x = V.str "again") = false := by
                  rw [ex, is_again]
                  cases kk <;> first | rfl | cases hl
                rw [e]
                rfl
              · rw [hv4]
                refine iteT ⟨_, rfl, a, .str x :: vs', 0, .str x, rfl, rfl, SqT.of (s4 _ _ a1), atI_nat (j := 0) rfl, (by decide +kernel), fun q hq => ⟨q, do3V, rfl, .inl (SqL.of upd_same), rfl, by decide +kernel, _, rfl, ?_⟩⟩
                have s7 := s4.trans (same_upd (o := .lst do3V) hq)
                have hp7 := same_upd (o := .lst do3V) hq _ _ hp4
                generalize upd H6 q (.lst do3V) = H7 at s7 hp7 ⊢
                show if (if true = true then !inV (.str x) do3V else inV (.str x) do3V) = true then _ else _
                rw [if_pos rfl]
                rcases hno with hno | ⟨kk, hno, hl⟩
                · rw [do3_no hno]
                  rw [hno] at hlaw
                  exact iteT (hlaw ▸ k H7 s7)
                · have ex := kind_word hno
                  have hb := h6 hv4
                  rw [hno] at hlaw
                  have e3 : inV (.str x) do3V = true := by
                    rw [ex]
                    cases kk <;> first | decide +kernel | cases hl
                  rw [e3]
                  refine iteF ⟨rfl, s7, hp7, ?_⟩
                  rw [hlaw]
                  show (countB kk rs.length && _) = _
                  rw [count_more hno hl hb]
            clear hp4 s4 hd4 h5 h6
            rintro σ7 H7 ⟨rfl, s4, hp4, hlaw7⟩
            refine ⟨_, rfl, a, .str x :: vs', 0, .str x, rfl, rfl, SqT.of (s4 _ _ a1), atI_nat (j := 0) rfl, rfl, _, rfl, ?_⟩
            cases hag : decide (V.str x = V.str "again") with
            | false =>
              have e : lawTh (.tup (.at (.str x) :: ts)) = lawsB nameB signB rs := by rw [hlaw7, hag]; rfl
              refine iteT ⟨_, rfl, iteT ?_⟩
              refine ⟨_, rfl, p, rfl, ⟨_, SqL.of hp4⟩, comp_list (K := K) (a := p) (xs := ws) (fun i ys σc H' => ∃ (o : Option V), σc = [o] ∧ ys = (rs.take i).map (fun c => V.bl (lawTh c)) ∧ Same H7 H') ⟨none, rfl, rfl, Same.refl _⟩ (fun i ys σc H' ⟨_, _, _, e⟩ => SqL.of (e _ _ hp4)) ?_ ?_⟩
              · rintro i x' ys σc H' hx' hi ⟨o, rfl, rfl, s8⟩
                obtain ⟨t', ht', h1⟩ := ths_get _ hws hx'
                have q1 := szs_mem _ ht'
                have q2 := dps_mem _ ht'
                refine ⟨by rw [List.length_map, List.length_take]; omega, ?_⟩
                refine ⟨_, rfl, x', t', rfl, IsTh.kp (Kp.of (s4.trans s8)) h1, by omega, by omega, fun H8 s9 => nx hi ⟨_, rfl, ?_, s8.trans s9⟩⟩
                rw [take_next _ ht']
              · rintro ys σc H' ⟨o, rfl, rfl, s8⟩ q hq
                refine ⟨q, rs.map lawTh, rfl, SqL.of ?_, ?_⟩
                · rw [upd_same, List.take_of_length_le (by omega), List.map_map]; rfl
                · rw [laws_map]
                  exact e ▸ k _ (s4.trans (s8.trans (same_upd hq)))
            | true =>
              refine iteF ⟨_, rfl, p, ws, rfl, .inl (SqL.of hp4), rfl, _, rfl, ite2 (fun g => ?_) (fun g => ?_)⟩
              · have g' : rs.length = 1 := by
                  have := of_decide_eq_true g
                  injection this with this
                  omega
                have e : lawTh (.tup (.at (.str x) :: ts)) = lawsB nameB signB rs := by rw [hlaw7, hag, decide_eq_true g']; rfl
                refine ⟨_, rfl, p, rfl, ⟨_, SqL.of hp4⟩, comp_list (K := K) (a := p) (xs := ws) (fun i ys σc H' => ∃ (o : Option V), σc = [o] ∧ ys = (rs.take i).map (fun c => V.bl (lawTh c)) ∧ Same H7 H') ⟨none, rfl, rfl, Same.refl _⟩ (fun i ys σc H' ⟨_, _, _, e⟩ => SqL.of (e _ _ hp4)) ?_ ?_⟩
                · rintro i x' ys σc H' hx' hi ⟨o, rfl, rfl, s8⟩
                  obtain ⟨t', ht', h1⟩ := ths_get _ hws hx'
                  have q1 := szs_mem _ ht'
                  have q2 := dps_mem _ ht'
                  refine ⟨by rw [List.length_map, List.length_take]; omega, ?_⟩
                  refine ⟨_, rfl, x', t', rfl, IsTh.kp (Kp.of (s4.trans s8)) h1, by omega, by omega, fun H8 s9 => nx hi ⟨_, rfl, ?_, s8.trans s9⟩⟩
                  rw [take_next _ ht']
                · rintro ys σc H' ⟨o, rfl, rfl, s8⟩ q hq
                  refine ⟨q, rs.map lawTh, rfl, SqL.of ?_, ?_⟩
                  · rw [upd_same, List.take_of_length_le (by omega), List.map_map]; rfl
                  · rw [laws_map]
                    exact e ▸ k _ (s4.trans (s8.trans (same_upd hq)))
              · have g' : ¬ rs.length = 1 := fun z => g (decide_eq_true (by rw [hlw, z]; rfl))
                have e : lawTh (.tup (.at (.str x) :: ts)) = false := by rw [hlaw7, hag, decide_eq_false g']; rfl
                exact e ▸ k H7 s4
end
end K08

set_option Elab.async false
set_option linter.all false
set_option maxRecDepth 100000
set_option maxHeartbeats 4000000
namespace K08
open PySem L2
def spLaw (K : PySem.W.Frag) : Sp := fun vs H Q _ => ∃ (a : Addr) (ns : List Int), vs = [.ref a] ∧ SqL K H a (ns.map V.int) ∧ ns.length ≤ 63 ∧ ∀ H', Q (.bl true) H'
def rooms4 : List V := [.int 12, .int 40, .int 25, .int 60]
theorem rooms_at {i : Nat} (h : i < 4) : ∃ r : Int, rooms4[i]? = some (.int r) := by
  match i, h with
  | 0, _ => exact ⟨12, rfl⟩
  | 1, _ => exact ⟨40, rfl⟩
  | 2, _ => exact ⟨25, rfl⟩
  | 3, _ => exact ⟨60, rfl⟩
theorem name_flat (t : Th) (h : nameB t = true) : isTup t = false := by
  cases t with
  | tup xs => cases h
  | _ => rfl
theorem sign_flat (t : Th) (h : signB t = true) : isTup t = false := by
  cases t with
  | tup xs => cases h
  | _ => rfl
theorem law_is_tree (t : Th) : lawTh t = treeT t := law_tree nameB signB name_flat sign_flat t
theorem cC6 : cC 6 = 373240 := by decide
theorem cS6 : cS 6 = 27993 := by decide
section
variable {P : Program} {w : World} {K : PySem.W.Frag} {mg : Str → Option Value} {base : Heap}
theorem scLaw : FnScope ["_law_script", "_law_feed_here", "_law_turn", "_law_form_here", "_law_k", "_law_thing", "_law_found"] ["_law_script"] (defScope sLaw) := ⟨rfl, rfl, rfl, by decide +kernel, rfl, by decide +kernel, by decide +kernel⟩
theorem ok_law {f fF fD fS fM fB fN fT fI : Addr} {fd dF dD dS dM dB dN dT dI : FuncData} (F : Fun K "law" "law" sLaw f fd) (U : Helpers K mg fD fS dD dS) (T : TxtT mg)
    (FF : Fun K "_law_feed" "_law_feed" sFeed fF dF) (bF : Binds K dF ["_law_script"] []) (mF : mg "_law_feed" = some (.ref fF))
    (GM : FnOk P w K mg base CX0 9 fM dM ["_law_feed_here", "_law_world", "_law_below"] (spForm 6)) (FM : Fun K "_law_form" "_law_form" sForm fM dM) (bM : Binds K dM ["_law_feed_here", "_law_world", "_law_below"] []) (mM : mg "_law_form" = some (.ref fM))
    (GB : FnOk P w K mg base CX0 5 fB dB ["thing"] spBare) (FB : Fun K "is_bare" "is_bare" sBare fB dB) (bB' : Binds K dB ["thing"] []) (mB : mg "is_bare" = some (.ref fB))
    (GN : FnOk P w K mg base CX0 8 fN dN ["_law_e"] (spNodes 6)) (FN : Fun K "_law_nodes" "_law_nodes" sLawNodes fN dN) (bN : Binds K dN ["_law_e"] []) (mN : mg "_law_nodes" = some (.ref fN))
    (GT : FnOk P w K mg base CX0 10 fT dT ["_law_feed_here", "_law_e", "_law_at"] (spBent 6)) (FT : Fun K "_law_bent" "_law_bent" sBent fT dT) (bT : Binds K dT ["_law_feed_here", "_law_e", "_law_at"] []) (mT : mg "_law_bent" = some (.ref fT))
    (GI : FnOk P w K mg base CX0 22 fI dI ["_law_thing"] (spLawIs 19)) (FI : Fun K "_law_is" "_law_is" sLawIs fI dI) (bI : Binds K dI ["_law_thing"] []) (mI : mg "_law_is" = some (.ref fI)) :
    FnOk P w K mg base CX0 23 f fd ["_law_script"] (spLaw K) := by
  have GF : FnOk P w K mg base CX0 1 fF dF ["_law_script"] (spFeed K) := ok_feed FF U.T
  have GD : FnOk P w K mg base CX0 1 fD dD ["_law_feed_here", "_law_many"] spDraw := ok_draw U.D U.T
  refine F.ok scLaw (fun vs H Q E h => ?_) (fun cdv A outer s H vs Q E hr h => ?_)
  · obtain ⟨a, ns, rfl, _⟩ := h
    rfl
  · obtain ⟨a, ns, rfl, hS, hlen, k⟩ := h
    have hr1 : Room 1 _ := hr.mono (by decide)
    have hr5 : Room 5 _ := hr.mono (by decide)
    have hr8 : Room 8 _ := hr.mono (by decide)
    have hr9 : Room 9 _ := hr.mono (by decide)
    have hr10 : Room 10 _ := hr.mono (by decide)
    refine' ⟨?tt, ?body, ?fin⟩
    case body =>
      refine' pss_cons ?s1 (pss_cons ?s2 (pss_one ?s3))
      case s1 => exact ps_set (i := 1) scLaw.nd rfl (Or.inl rfl) (pe_call GF hr1 (by rfl) mF FF.kp bF .nil pass0 (pa_n (pv 0) pa_nil))
      case s2 =>
        refine' ps_for PassesOwn.never rfl (pi_range1 (by rfl) U.T.range (pa_k pe_int pa_nil)) (pg_name (i := 2) scLaw.nd rfl (Or.inl rfl)) (pss_cut ?b1 (pss_cons ?b2 (pss_one ?b3)))
        case b1 =>
          refine' ps_set9 (i := 3) ?ha ?hb ?hc ?hd ?he ?hf
          case ha => exact scLaw.nd
          case hb => exact rfl
          case hc => exact (Or.inl rfl)
          case he => exact rfl
          case hf => exact (.inr rfl)
          case hd =>
            refine' pe_call (X := ((cxOf CX0 P w K mg base ["_law_script", "_law_feed_here", "_law_turn", "_law_form_here", "_law_k", "_law_thing", "_law_found"] "law" (defScope sLaw) f cdv A outer s H E).nox)) GM hr9 (by rfl) mM FM.kp bM .nil pass0 (pa_n (pv (X := ((cxOf CX0 P w K mg base ["_law_script", "_law_feed_here", "_law_turn", "_law_form_here", "_law_k", "_law_thing", "_law_found"] "law" (defScope sLaw) f cdv A outer s H E).nox)) 1) (pa_cons (X := ((cxOf CX0 P w K mg base ["_law_script", "_law_feed_here", "_law_turn", "_law_form_here", "_law_k", "_law_thing", "_law_found"] "law" (defScope sLaw) f cdv A outer s H E).nox)) (te := tDisp [(tC (.str "room"), tOp (rIxL K) (tLst (fun _ H Q => Q rooms4 H)) (tVar 2))]) ?x (pa_cons (X := ((cxOf CX0 P w K mg base ["_law_script", "_law_feed_here", "_law_turn", "_law_form_here", "_law_k", "_law_thing", "_law_found"] "law" (defScope sLaw) f cdv A outer s H E).nox)) (te := tOp (rI0 fun i j => .int (i + j)) (tC (.int 3)) (tCall spDraw [] E0 (tCons (tVar 1) (tCons (tC (.int 4)) tNil)))) ?y (pa_nil (X := ((cxOf CX0 P w K mg base ["_law_script", "_law_feed_here", "_law_turn", "_law_form_here", "_law_k", "_law_thing", "_law_found"] "law" (defScope sLaw) f cdv A outer s H E).nox))))))
            case x =>
              refine' pe_disp (X := ((cxOf CX0 P w K mg base ["_law_script", "_law_feed_here", "_law_turn", "_law_form_here", "_law_k", "_law_thing", "_law_found"] "law" (defScope sLaw) f cdv A outer s H E).nox)) (pps_cons (X := ((cxOf CX0 P w K mg base ["_law_script", "_law_feed_here", "_law_turn", "_law_form_here", "_law_k", "_law_thing", "_law_found"] "law" (defScope sLaw) f cdv A outer s H E).nox)) (pe_str (X := ((cxOf CX0 P w K mg base ["_law_script", "_law_feed_here", "_law_turn", "_law_form_here", "_law_k", "_law_thing", "_law_found"] "law" (defScope sLaw) f cdv A outer s H E).nox))) ?z (pps_nil (X := ((cxOf CX0 P w K mg base ["_law_script", "_law_feed_here", "_law_turn", "_law_form_here", "_law_k", "_law_thing", "_law_found"] "law" (defScope sLaw) f cdv A outer s H E).nox)))) rfl rfl (by intro z; cases z) (by decide)
              case z =>
                refine' pe_ix (X := ((cxOf CX0 P w K mg base ["_law_script", "_law_feed_here", "_law_turn", "_law_form_here", "_law_k", "_law_thing", "_law_found"] "law" (defScope sLaw) f cdv A outer s H E).nox)) ix_list ?l (pv (X := ((cxOf CX0 P w K mg base ["_law_script", "_law_feed_here", "_law_turn", "_law_form_here", "_law_k", "_law_thing", "_law_found"] "law" (defScope sLaw) f cdv A outer s H E).nox)) 2) (fun _ _ => rfl)
                case l => exact @pe_consts ((cxOf CX0 P w K mg base ["_law_script", "_law_feed_here", "_law_turn", "_law_form_here", "_law_k", "_law_thing", "_law_found"] "law" (defScope sLaw) f cdv A outer s H E).nox) _ rooms4 (by decide +kernel)
            case y => exact pe_op (X := ((cxOf CX0 P w K mg base ["_law_script", "_law_feed_here", "_law_turn", "_law_form_here", "_law_k", "_law_thing", "_law_found"] "law" (defScope sLaw) f cdv A outer s H E).nox)) op_add (pe_int (X := ((cxOf CX0 P w K mg base ["_law_script", "_law_feed_here", "_law_turn", "_law_form_here", "_law_k", "_law_thing", "_law_found"] "law" (defScope sLaw) f cdv A outer s H E).nox))) (pe_call (X := ((cxOf CX0 P w K mg base ["_law_script", "_law_feed_here", "_law_turn", "_law_form_here", "_law_k", "_law_thing", "_law_found"] "law" (defScope sLaw) f cdv A outer s H E).nox)) GD hr1 (by rfl) U.mD U.D.kp U.bD .nil pass0 (pa_n (pv (X := ((cxOf CX0 P w K mg base ["_law_script", "_law_feed_here", "_law_turn", "_law_form_here", "_law_k", "_law_thing", "_law_found"] "law" (defScope sLaw) f cdv A outer s H E).nox)) 1) (pa_k (pe_int (X := ((cxOf CX0 P w K mg base ["_law_script", "_law_feed_here", "_law_turn", "_law_form_here", "_law_k", "_law_thing", "_law_found"] "law" (defScope sLaw) f cdv A outer s H E).nox))) (pa_nil (X := ((cxOf CX0 P w K mg base ["_law_script", "_law_feed_here", "_law_turn", "_law_form_here", "_law_k", "_law_thing", "_law_found"] "law" (defScope sLaw) f cdv A outer s H E).nox))))))
        case b2 => exact ps_if (pt_cmpR op_isnot_bl (pe_call GB hr5 (by rfl) mB FB.kp bB' .nil pass0 (pa_n (pv 3) pa_nil)) pe_bl (nomark _)) (pss_one (ps_ret pe_bl)) pss_nil
        case b3 =>
          refine' ps_for PassesOwn.never rfl (pi_range1 (by rfl) U.T.range (pa_k pe_int pa_nil)) (pg_name (i := 4) scLaw.nd rfl (Or.inl rfl)) (pss_cut ?c1 (pss_cut ?c2 (pss_one ?c3)))
          case c1 => exact ps_set (i := 5) scLaw.nd rfl (Or.inl rfl) (pe_call GT hr10 (by rfl) mT FT.kp bT .nil pass0 (pa_n (pv 1) (pa_n (pv 3) (pa_c (pe_call GD hr1 (by rfl) U.mD U.D.kp U.bD .nil pass0 (pa_n (pv 1) (pa_c (pe_call GN hr8 (by rfl) mN FN.kp bN .nil pass0 (pa_n (pv 3) pa_nil)) pa_nil))) pa_nil))))
          case c2 => exact ps_set (i := 6) scLaw.nd rfl (Or.inl rfl) (pe_call GB hr5 (by rfl) mB FB.kp bB' .nil pass0 (pa_n (pv 5) pa_nil))
          case c3 => exact ps_if (pw_or (pt_not (pt_val (pe_callB call_isinst (by rfl) T.isi (by decide +kernel) (pa_n (pv 6) (pa_n (pe_bltn (v := .ty "bool") (by rfl) T.bl (by decide +kernel) rfl) pa_nil))))) (pw_or1 (pt_cmpR op_ne (pv 6) (pe_call GI hr (by rfl) mI FI.kp bI .nil pass0 (pa_n (pv 5) pa_nil)) (nomark _)))).pt (pss_one (ps_ret pe_bl)) pss_nil
      case s3 => exact ps_ret pe_bl
    case fin =>
      refine ⟨_, rfl, a, ns, rfl, hS, hlen, fun d l H1 F1 hd0 s1 => ?_⟩
      refine ⟨4, rfl, by decide, by decide, for_range (n := 4) (fun i σ H' => ∃ (o2 o3 o4 o5 o6 : Option V) (n' : Nat), σ = [some (.ref a), some (.ref d), o2, o3, o4, o5, o6] ∧ n' ≤ 400000 * i ∧ Feed H' d l ns n')
        ⟨none, none, none, none, none, 0, rfl, Nat.le_refl _, F1⟩ ?_ ?_⟩
      · rintro i σ H2 hi ⟨o2, o3, o4, o5, o6, n2, rfl, hn2, F2⟩
        refine ⟨fun σ' H' => ∃ (v : V) (t : Th) (n' : Nat), σ' = [some (.ref a), some (.ref d), some (.int (0 + (i : Int))), some v, o4, o5, o6] ∧ IsTh H' v t ∧ treeT t = true ∧ DpT 6 t ∧ Th.sz t ≤ 27993 ∧ Th.dp t ≤ 6 ∧ n' ≤ 400000 * i + 373241 ∧ Feed H' d l ns n', ?_, ?_⟩
        · obtain ⟨r, hr4⟩ := rooms_at hi
          refine ⟨_, rfl, fun wd hwd => ?_⟩
          refine ⟨small_len (by decide +kernel), fun q hq => ⟨_, rfl, q, rooms4, 0 + (i : Int), .int r, rfl, rfl, SqL.of upd_same, at_of hr4, ?_⟩⟩
          have hqw : wd ≠ q := ne_of_none (H := upd H2 wd (.dK [])) upd_same hq
          refine ⟨by rw [upd_ne hqw]; exact upd_same, roomKV r, rfl, by show 1 ≤ 15; decide, ?_⟩
          have em : mergeK [] (roomKV r) = roomKV r := by with_unfolding_all rfl
          rw [em]
          have sA : Same H2 (upd (upd (upd H2 wd (.dK [])) q (.lst rooms4)) wd (.dK (roomKV r))) := fun b o e => by
            rw [upd_ne (ne_of_none e hwd)]
            exact same_upd hq b o (same_upd hwd b o e)
          have W3 : upd (upd (upd H2 wd (.dK [])) q (.lst rooms4)) wd (.dK (roomKV r)) wd = some (.dK (roomKV r)) := upd_same
          generalize upd (upd (upd H2 wd (.dK [])) q (.lst rooms4)) wd (.dK (roomKV r)) = H3 at sA W3 ⊢
          have F3 := F2.same sA
          have hne := world_ne F3 W3
          refine ⟨_, rfl, d, l, ns, n2, 4, rfl, F3, by omega, by decide, by decide, fun z n4 H4 z0 z1 hn4 F4 B4 => ⟨_, _, rfl, rfl, d, l, wd, ns, n4, r, 3 + z, rfl, by decide, by omega, F4, B4 wd _ W3 hne, by rw [cC6]; unfold lim; omega, fun v t n5 r5 H5 h1 h2 h3 h4 h4' h5 F5 W5 B5 => ?_⟩⟩
          rw [cC6] at h5
          rw [cS6] at h4
          exact ⟨v, t, n5, rfl, h1, h2, h3, h4, h4', by omega, F5⟩
        rintro σ3 H3 ⟨v, t, n3, rfl, hv, htree, hdeep, hsz, hdp, hn3, F3⟩
        refine ⟨_, rfl, v, t, rfl, hv, by omega, fun H4 s4 => ⟨_, _, rfl, rfl, _, rfl, ?_⟩⟩
        rw [htree]
        refine iteF ?_
        refine ⟨3, rfl, by decide, by decide, for_range (n := 3) (fun j σ H' => ∃ (o4 o5 o6 : Option V) (n' : Nat), σ = [some (.ref a), some (.ref d), some (.int (0 + (i : Int))), some v, o4, o5, o6] ∧ IsTh H' v t ∧ n' ≤ 400000 * i + 373241 + 41 * j ∧ Feed H' d l ns n')
          ⟨o4, o5, o6, n3, rfl, IsTh.kp (Kp.of s4) hv, by omega, F3.same s4⟩ ?_ ?_⟩
        · rintro j σ H5 hj ⟨p4, p5, p6, n5, rfl, hv5, hn5, F5⟩
          refine ⟨fun σ' H' => ∃ (x : V) (y : Th) (n' : Nat), σ' = [some (.ref a), some (.ref d), some (.int (0 + (i : Int))), some v, some (.int (0 + (j : Int))), some x, p6] ∧ IsTh H' v t ∧ IsTh H' x y ∧ Th.sz y ≤ 1000000 ∧ Th.dp y < 19 ∧ n' ≤ 400000 * i + 373241 + 41 * (j + 1) ∧ Feed H' d l ns n', ?_, ?_⟩
          · refine ⟨_, rfl, _, rfl, _, rfl, _, rfl, v, t, rfl, hv5, hdeep, by omega, fun m H6 m1 m2 s6 => ?_⟩
            have F6 := F5.same s6
            refine ⟨d, l, ns, n5, m, rfl, F6, by omega, by omega, by omega, fun z n7 H7 z0 z1 hn7 F7 B7 => ?_⟩
            have hv7 := IsTh.kp (B7.kp F6) (IsTh.kp (Kp.of s6) hv5)
            refine ⟨d, l, ns, n7, v, t, z, rfl, F7, by unfold lim; omega, hv7, hdeep, by omega, by omega, fun x y n8 H8 x1 x2 x3 x4 F8 B8 => ?_⟩
            have ebB : bB 6 = 860012 := by decide
            exact ⟨x, y, n8, rfl, IsTh.kp (B8.kp F7) hv7, x1, by omega, by omega, by omega, F8⟩
          rintro σ6 H6 ⟨x, y, n6, rfl, hv6, hx6, hsz6, hdp6, hn6, F6⟩
          refine ⟨fun σ' H' => σ' = [some (.ref a), some (.ref d), some (.int (0 + (i : Int))), some v, some (.int (0 + (j : Int))), some x, some (.bl (treeT y))] ∧ Same H6 H', ?_, ?_⟩
          · exact ⟨_, rfl, x, y, rfl, hx6, hsz6, fun H7 s7 => ⟨rfl, s7⟩⟩
          rintro σ7 H7 ⟨rfl, s7⟩
          refine ⟨_, rfl, _, _, .type "bool", true, rfl, .bl _, kit_same _ _, _, rfl, iteF ?_⟩
          refine ⟨_, rfl, _, rfl, x, y, rfl, IsTh.kp (Kp.of s7) hx6, hdp6, hsz6, fun H8 s8 => ⟨rfl, _, rfl, ?_⟩⟩
          rw [law_is_tree y, decide_eq_true rfl]
          refine iteF ?_
          exact ⟨_, _, _, n6, rfl, IsTh.kp (Kp.of (s7.trans s8)) hv6, by omega, F6.same (s7.trans s8)⟩
        · rintro σ H5 ⟨p4, p5, p6, n5, rfl, hv5, hn5, F5⟩
          exact ⟨_, _, _, _, _, n5, rfl, by omega, F5⟩
      · rintro σ H2 ⟨o2, o3, o4, o5, o6, n2, rfl, hn2, F2⟩
        exact k H2
end
end K08

set_option Elab.async false
set_option linter.all false
set_option maxRecDepth 100000
set_option maxHeartbeats 4000000
namespace K08
open PySem L2
theorem kits_of {K : PySem.W.Frag} (kt_NoneType_int : PySem.W.kitOne K (.type "NoneType") (.type "int") = some false) (kt_bool_int : PySem.W.kitOne K (.type "bool") (.type "int") = some true) (kt_int_int : PySem.W.kitOne K (.type "int") (.type "int") = some true) (kt_str_int : PySem.W.kitOne K (.type "str") (.type "int") = some false) (kt_tuple_int : PySem.W.kitOne K (.type "tuple") (.type "int") = some false) (kt_list_int : PySem.W.kitOne K (.type "list") (.type "int") = some false) (kt_NoneType_bool : PySem.W.kitOne K (.type "NoneType") (.type "bool") = some false) (kt_bool_bool : PySem.W.kitOne K (.type "bool") (.type "bool") = some true) (kt_int_bool : PySem.W.kitOne K (.type "int") (.type "bool") = some false) (kt_str_bool : PySem.W.kitOne K (.type "str") (.type "bool") = some false) (kt_tuple_bool : PySem.W.kitOne K (.type "tuple") (.type "bool") = some false) (kt_list_bool : PySem.W.kitOne K (.type "list") (.type "bool") = some false) (kt_NoneType_str : PySem.W.kitOne K (.type "NoneType") (.type "str") = some false) (kt_bool_str : PySem.W.kitOne K (.type "bool") (.type "str") = some false) (kt_int_str : PySem.W.kitOne K (.type "int") (.type "str") = some false) (kt_str_str : PySem.W.kitOne K (.type "str") (.type "str") = some true) (kt_tuple_str : PySem.W.kitOne K (.type "tuple") (.type "str") = some false) (kt_list_str : PySem.W.kitOne K (.type "list") (.type "str") = some false) (kt_NoneType_tuple : PySem.W.kitOne K (.type "NoneType") (.type "tuple") = some false) (kt_bool_tuple : PySem.W.kitOne K (.type "bool") (.type "tuple") = some false) (kt_int_tuple : PySem.W.kitOne K (.type "int") (.type "tuple") = some false) (kt_str_tuple : PySem.W.kitOne K (.type "str") (.type "tuple") = some false) (kt_tuple_tuple : PySem.W.kitOne K (.type "tuple") (.type "tuple") = some true) (kt_list_tuple : PySem.W.kitOne K (.type "list") (.type "tuple") = some false) : Kits K := by
  refine ⟨?i, ?b, ?s, ?t⟩
  case i =>
    intro H v t h
    cases h with
    | «at» f =>
      cases v with
      | non => exact kt_NoneType_int
      | bl b => exact kt_bool_int
      | int i => exact kt_int_int
      | str x => exact kt_str_int
      | _ => exact absurd (show false = true from f) Bool.false_ne_true
    | tup e r => exact kt_tuple_int
    | lst e r => exact kt_list_int
  case b =>
    intro H v t h
    cases h with
    | «at» f =>
      cases v with
      | non => exact kt_NoneType_bool
      | bl b => exact kt_bool_bool
      | int i => exact kt_int_bool
      | str x => exact kt_str_bool
      | _ => exact absurd (show false = true from f) Bool.false_ne_true
    | tup e r => exact kt_tuple_bool
    | lst e r => exact kt_list_bool
  case s =>
    intro H v t h
    cases h with
    | «at» f =>
      cases v with
      | non => exact kt_NoneType_str
      | bl b => exact kt_bool_str
      | int i => exact kt_int_str
      | str x => exact kt_str_str
      | _ => exact absurd (show false = true from f) Bool.false_ne_true
    | tup e r => exact kt_tuple_str
    | lst e r => exact kt_list_str
  case t =>
    intro H v t h
    cases h with
    | «at» f =>
      cases v with
      | non => exact kt_NoneType_tuple
      | bl b => exact kt_bool_tuple
      | int i => exact kt_int_tuple
      | str x => exact kt_str_tuple
      | _ => exact absurd (show false = true from f) Bool.false_ne_true
    | tup e r => exact kt_tuple_tuple
    | lst e r => exact kt_list_tuple
def fitsOf (fV fN fS fT : Addr) (g : Addr) : Th → Bool :=
  if g = fV then fun t => inRange t (some 999999999) else if g = fN then nameB else if g = fS then signB else if g = fT then fun t => inRange t (some 5) else fun t => inRange t none
def PfOf (fV fN fS fT fM : Addr) (g : Addr) : Prop := g = fV ∨ g = fN ∨ g = fS ∨ g = fT ∨ g = fM
theorem sq_of {K : PySem.W.Frag} {r : Addr} {vs : List V} {od : Option Addr} {its : Array Value} {n : Nat} {sl : Array (Option Value)} (l : K.lookup r = some ⟨.type "tuple", od, .seq its n, sl⟩) (v : Vals vs its.toList) (hl : vs.length ≤ 1000) : ∀ H, SqT K H r vs := fun H => by
  have hsz : its.size ≤ sizeLine := by
    have h := v.length
    have e : its.toList.length = its.size := Array.length_toList
    have h2 : sizeLine = 16777216 := sizeLine_eq
    omega
  exact .inr ⟨_, its, n, l, rfl, rfl, hsz, v⟩
abbrev kvRof (r0 r1 r2 r3 r4 r5 r6 r7 r8 r9 r10 : Addr) : List (Str × V) := [("num", .ref r0), ("name", .ref r1), ("op", .ref r2), ("pick", .ref r3), ("let", .ref r4), ("set", .ref r5), ("say", .ref r6), ("take", .ref r7), ("do", .ref r8), ("again", .ref r9), ("call", .ref r10)]
abbrev kvBof (r11 r12 r13 : Addr) : List (Str × V) := [("let", .ref r11), ("own", .ref r12), ("hole", .ref r13)]
theorem ndR_ : (["num", "name", "op", "pick", "let", "set", "say", "take", "do", "again", "call"] : List Str).Nodup := by decide +kernel
theorem ndB_ : (["let", "own", "hole"] : List Str).Nodup := by decide +kernel
theorem get_no : ∀ (kvs : List (Str × V)) {x : Str}, (∀ p ∈ kvs, p.1 ≠ x) → getT kvs x = none := fun kvs x h => val_no kvs h
section
variable {K : PySem.W.Frag} {fV fN fS fT fM : Addr} {r0 r1 r2 r3 r4 r5 r6 r7 r8 r9 r10 r11 r12 r13 : Addr}
theorem at_of_rules (nd : [fV, fN, fS, fT, fM].Nodup) (s0 : ∀ H, SqT K H r0 [.ref fV, .int 0, .int 0]) (s1 : ∀ H, SqT K H r1 [.ref fN, .int 0, .int 0]) (s2 : ∀ H, SqT K H r2 [.ref fS, .int 2, .int 2]) (s3 : ∀ H, SqT K H r3 [.non, .int 3, .int 3])
    (s5 : ∀ H, SqT K H r5 [.ref fN, .int 1, .int 1]) (s6 : ∀ H, SqT K H r6 [.non, .int 1, .int 1]) (s7 : ∀ H, SqT K H r7 [.non, .int 0, .int 0]) (s8 : ∀ H, SqT K H r8 [.non, .int 1, .int 6]) (s9 : ∀ H, SqT K H r9 [.ref fT, .int 1, .int 1]) (s10 : ∀ H, SqT K H r10 [.ref fN, .int 0, .int 6])
    (s11 : ∀ H, SqT K H r11 [.non, .int 2, .int 2]) (s12 : ∀ H, SqT K H r12 [.ref fM, .int 0, .int 0]) (s13 : ∀ H, SqT K H r13 [.ref fM, .int 0, .int 0]) (x : Str) :
    RuleAt K (fitsOf fV fN fS fT) (PfOf fV fN fS fT fM) ((getT (kvBof r11 r12 r13) x).getD ((getT (kvRof r0 r1 r2 r3 r4 r5 r6 r7 r8 r9 r10) x).getD .non)) ((kindOf x).map (rule nameB signB)) := by
  simp only [List.nodup_cons, List.mem_cons, List.not_mem_nil, or_false, not_or, List.nodup_nil, and_true, not_false_eq_true] at nd
  obtain ⟨⟨nVN, nVS, nVT, nVM⟩, ⟨nNS, nNT, nNM⟩, ⟨nST, nSM⟩, nTM⟩ := nd
  have eV : fitsOf fV fN fS fT fV = fun t => inRange t (some 999999999) := by unfold fitsOf; rw [if_pos rfl]
  have eN : fitsOf fV fN fS fT fN = nameB := by unfold fitsOf; rw [if_neg (Ne.symm nVN), if_pos rfl]
  have eS : fitsOf fV fN fS fT fS = signB := by unfold fitsOf; rw [if_neg (Ne.symm nVS), if_neg (Ne.symm nNS), if_pos rfl]
  have eT : fitsOf fV fN fS fT fT = fun t => inRange t (some 5) := by unfold fitsOf; rw [if_neg (Ne.symm nVT), if_neg (Ne.symm nNT), if_neg (Ne.symm nST), if_pos rfl]
  have eM : fitsOf fV fN fS fT fM = fun t => inRange t none := by unfold fitsOf; rw [if_neg (Ne.symm nVM), if_neg (Ne.symm nNM), if_neg (Ne.symm nSM), if_neg (Ne.symm nTM)]
  cases hk : kindOf x with
  | none =>
    have hn := kind_no hk
    have e1 : getT (kvBof r11 r12 r13) x = none := get_no _ (fun p hp z => by
      simp only [kvBof, List.mem_cons, List.not_mem_nil, or_false] at hp
      rcases hp with rfl | rfl | rfl
      · exact hn .lett z.symm
      · exact hn .own z.symm
      · exact hn .hole z.symm)
    have e2 : getT (kvRof r0 r1 r2 r3 r4 r5 r6 r7 r8 r9 r10) x = none := get_no _ (fun p hp z => by
      simp only [kvRof, List.mem_cons, List.not_mem_nil, or_false] at hp
      rcases hp with rfl | rfl | rfl | rfl | rfl | rfl | rfl | rfl | rfl | rfl | rfl
      · exact hn .num z.symm
      · exact hn .name z.symm
      · exact hn .op z.symm
      · exact hn .pick z.symm
      · exact hn .lett z.symm
      · exact hn .sett z.symm
      · exact hn .say z.symm
      · exact hn .take z.symm
      · exact hn .dow z.symm
      · exact hn .again z.symm
      · exact hn .call z.symm)
    rw [e1, e2]
    rfl
  | some kk =>
    have ex := kind_word hk
    subst ex
    cases kk with
    | num => exact ⟨r0, .ref fV, by with_unfolding_all rfl, s0, fV, rfl, .inl rfl, eV⟩
    | name => exact ⟨r1, .ref fN, by with_unfolding_all rfl, s1, fN, rfl, .inr (.inl rfl), eN⟩
    | op => exact ⟨r2, .ref fS, by with_unfolding_all rfl, s2, fS, rfl, .inr (.inr (.inl rfl)), eS⟩
    | pick => exact ⟨r3, .non, by with_unfolding_all rfl, s3, rfl⟩
    | lett => exact ⟨r11, .non, by with_unfolding_all rfl, s11, rfl⟩
    | sett => exact ⟨r5, .ref fN, by with_unfolding_all rfl, s5, fN, rfl, .inr (.inl rfl), eN⟩
    | say => exact ⟨r6, .non, by with_unfolding_all rfl, s6, rfl⟩
    | take => exact ⟨r7, .non, by with_unfolding_all rfl, s7, rfl⟩
    | dow => exact ⟨r8, .non, by with_unfolding_all rfl, s8, rfl⟩
    | again => exact ⟨r9, .ref fT, by with_unfolding_all rfl, s9, fT, rfl, .inr (.inr (.inr (.inl rfl))), eT⟩
    | call => exact ⟨r10, .ref fN, by with_unfolding_all rfl, s10, fN, rfl, .inr (.inl rfl), eN⟩
    | own => exact ⟨r12, .ref fM, by with_unfolding_all rfl, s12, fM, rfl, .inr (.inr (.inr (.inr rfl))), eM⟩
    | hole => exact ⟨r13, .ref fM, by with_unfolding_all rfl, s13, fM, rfl, .inr (.inr (.inr (.inr rfl))), eM⟩
end
theorem all_mk {l : PySem.W.OpenLaw} {w : World} {K : PySem.W.Frag} {h : Heap} {mg : Str → Option Value} {fa f0 f1 f2 f3 f4 f5 f6 f7 f8 f9 f10 f11 f12 f13 f14 f15 f16 f17 f18 f19 f20 f21 f22 f23 f24 f25 f26 f27 aW aS aR aB r0 r1 r2 r3 r4 r5 r6 r7 r8 r9 r10 r11 r12 r13 : Addr} (X : K.In h) (G : h.Ns mainGlobals mg) (hfa : mg "law" = some (.ref fa))
    {od0 an0 od1 an1 od2 an2 od3 an3 od4 an4 od5 an5 od6 an6 od7 an7 od8 an8 od9 an9 od10 an10 od11 an11 od12 an12 od13 an13 od14 an14 od15 an15 od16 an16 od17 an17 od18 an18 od19 an19 od20 an20 od21 an21 od22 an22 od23 an23 od24 an24 od25 an25 od26 an26 od27 an27 : Option Addr} {sl0 sl1 sl2 sl3 sl4 sl5 sl6 sl7 sl8 sl9 sl10 sl11 sl12 sl13 sl14 sl15 sl16 sl17 sl18 sl19 sl20 sl21 sl22 sl23 sl24 sl25 sl26 sl27 : Array (Option Value)} {oc0 kV0 dc0 pm0 cd0 ct0 oc1 kV1 dc1 pm1 cd1 ct1 oc2 kV2 dc2 pm2 cd2 ct2 oc3 kV3 dc3 pm3 cd3 ct3 oc4 kV4 dc4 pm4 cd4 ct4 oc5 kV5 dc5 pm5 cd5 ct5 oc6 kV6 dc6 pm6 cd6 ct6 oc7 kV7 dc7 pm7 cd7 ct7 oc8 kV8 dc8 pm8 cd8 ct8 oc9 kV9 dc9 pm9 cd9 ct9 oc10 kV10 dc10 pm10 cd10 ct10 oc11 kV11 dc11 pm11 cd11 ct11 oc12 kV12 dc12 pm12 cd12 ct12 oc13 kV13 dc13 pm13 cd13 ct13 oc14 kV14 dc14 pm14 cd14 ct14 oc15 kV15 dc15 pm15 cd15 ct15 oc16 kV16 dc16 pm16 cd16 ct16 oc17 kV17 dc17 pm17 cd17 ct17 oc18 kV18 dc18 pm18 cd18 ct18 oc19 kV19 dc19 pm19 cd19 ct19 oc20 kV20 dc20 pm20 cd20 ct20 oc21 kV21 dc21 pm21 cd21 ct21 oc22 kV22 dc22 pm22 cd22 ct22 oc23 kV23 dc23 pm23 cd23 ct23 oc24 kV24 dc24 pm24 cd24 ct24 oc25 kV25 dc25 pm25 cd25 ct25 oc26 kV26 dc26 pm26 cd26 ct26 oc27 kV27 dc27 pm27 cd27 ct27 : Value} {odW odS odr0 odr1 odr2 odr3 odr4 odr5 odr6 odr7 odr8 odr9 odr10 odr11 odr12 odr13 : Option Addr} {slW slS slr0 slr1 slr2 slr3 slr4 slr5 slr6 slr7 slr8 slr9 slr10 slr11 slr12 slr13 : Array (Option Value)} {itsW itsS its0 its1 its2 its3 its4 its5 its6 its7 its8 its9 its10 its11 its12 its13 : Array Value} {nW nS epR epB nr0 nr1 nr2 nr3 nr4 nr5 nr6 nr7 nr8 nr9 nr10 nr11 nr12 nr13 : Nat} {tkL tkV tkT : Tok} {esR esB : Array DictEntry}
    (a0 : PySem.W.nsIn K mainGlobals "is_whole" = some (some (.ref f0))) (l0 : K.lookup f0 = some ⟨oc0, od0, .func (PySem.W.fnOf "is_whole" "is_whole" (defArgs sWhole) (defBody sWhole) (defScope sWhole) .none kV0 dc0 pm0 an0 cd0 ct0), sl0⟩) (c0 : PySem.W.codeIn K cd0 "is_whole" = true) (k0 : PySem.W.keepIn K (.ref f0) = true)
    (a1 : PySem.W.nsIn K mainGlobals "is_name" = some (some (.ref f1))) (l1 : K.lookup f1 = some ⟨oc1, od1, .func (PySem.W.fnOf "is_name" "is_name" (defArgs sIsName) (defBody sIsName) (defScope sIsName) .none kV1 dc1 pm1 an1 cd1 ct1), sl1⟩) (c1 : PySem.W.codeIn K cd1 "is_name" = true) (k1 : PySem.W.keepIn K (.ref f1) = true)
    (a2 : PySem.W.nsIn K mainGlobals "is_value" = some (some (.ref f2))) (l2 : K.lookup f2 = some ⟨oc2, od2, .func (PySem.W.fnOf "is_value" "is_value" (defArgs sValue) (defBody sValue) (defScope sValue) .none kV2 dc2 pm2 an2 cd2 ct2), sl2⟩) (c2 : PySem.W.codeIn K cd2 "is_value" = true) (k2 : PySem.W.keepIn K (.ref f2) = true)
    (a3 : PySem.W.nsIn K mainGlobals "is_sign" = some (some (.ref f3))) (l3 : K.lookup f3 = some ⟨oc3, od3, .func (PySem.W.fnOf "is_sign" "is_sign" (defArgs sSign) (defBody sSign) (defScope sSign) .none kV3 dc3 pm3 an3 cd3 ct3), sl3⟩) (c3 : PySem.W.codeIn K cd3 "is_sign" = true) (k3 : PySem.W.keepIn K (.ref f3) = true)
    (a4 : PySem.W.nsIn K mainGlobals "is_times" = some (some (.ref f4))) (l4 : K.lookup f4 = some ⟨oc4, od4, .func (PySem.W.fnOf "is_times" "is_times" (defArgs sTimes) (defBody sTimes) (defScope sTimes) .none kV4 dc4 pm4 an4 cd4 ct4), sl4⟩) (c4 : PySem.W.codeIn K cd4 "is_times" = true) (k4 : PySem.W.keepIn K (.ref f4) = true)
    (a5 : PySem.W.nsIn K mainGlobals "expression_rule" = some (some (.ref f5))) (l5 : K.lookup f5 = some ⟨oc5, od5, .func (PySem.W.fnOf "expression_rule" "expression_rule" (defArgs sExprRule) (defBody sExprRule) (defScope sExprRule) .none kV5 dc5 pm5 an5 cd5 ct5), sl5⟩) (c5 : PySem.W.codeIn K cd5 "expression_rule" = true) (k5 : PySem.W.keepIn K (.ref f5) = true)
    (a6 : PySem.W.nsIn K mainGlobals "is_node" = some (some (.ref f6))) (l6 : K.lookup f6 = some ⟨oc6, od6, .func (PySem.W.fnOf "is_node" "is_node" (defArgs sNode) (defBody sNode) (defScope sNode) .none kV6 dc6 pm6 an6 cd6 ct6), sl6⟩) (c6 : PySem.W.codeIn K cd6 "is_node" = true) (k6 : PySem.W.keepIn K (.ref f6) = true)
    (a7 : PySem.W.nsIn K mainGlobals "is_tree" = some (some (.ref f7))) (l7 : K.lookup f7 = some ⟨oc7, od7, .func (PySem.W.fnOf "is_tree" "is_tree" (defArgs sTree) (defBody sTree) (defScope sTree) .none kV7 dc7 pm7 an7 cd7 ct7), sl7⟩) (c7 : PySem.W.codeIn K cd7 "is_tree" = true) (k7 : PySem.W.keepIn K (.ref f7) = true)
    (a8 : PySem.W.nsIn K mainGlobals "parts" = some (some (.ref f8))) (l8 : K.lookup f8 = some ⟨oc8, od8, .func (PySem.W.fnOf "parts" "parts" (defArgs sParts) (defBody sParts) (defScope sParts) .none kV8 dc8 pm8 an8 cd8 ct8), sl8⟩) (c8 : PySem.W.codeIn K cd8 "parts" = true) (k8 : PySem.W.keepIn K (.ref f8) = true)
    (a9 : PySem.W.nsIn K mainGlobals "is_number" = some (some (.ref f9))) (l9 : K.lookup f9 = some ⟨oc9, od9, .func (PySem.W.fnOf "is_number" "is_number" (defArgs sNumber) (defBody sNumber) (defScope sNumber) .none kV9 dc9 pm9 an9 cd9 ct9), sl9⟩) (c9 : PySem.W.codeIn K cd9 "is_number" = true) (k9 : PySem.W.keepIn K (.ref f9) = true)
    (a10 : PySem.W.nsIn K mainGlobals "bare_rule" = some (some (.ref f10))) (l10 : K.lookup f10 = some ⟨oc10, od10, .func (PySem.W.fnOf "bare_rule" "bare_rule" (defArgs sBareRule) (defBody sBareRule) (defScope sBareRule) .none kV10 dc10 pm10 an10 cd10 ct10), sl10⟩) (c10 : PySem.W.codeIn K cd10 "bare_rule" = true) (k10 : PySem.W.keepIn K (.ref f10) = true)
    (a11 : PySem.W.nsIn K mainGlobals "is_bare" = some (some (.ref f11))) (l11 : K.lookup f11 = some ⟨oc11, od11, .func (PySem.W.fnOf "is_bare" "is_bare" (defArgs sBare) (defBody sBare) (defScope sBare) .none kV11 dc11 pm11 an11 cd11 ct11), sl11⟩) (c11 : PySem.W.codeIn K cd11 "is_bare" = true) (k11 : PySem.W.keepIn K (.ref f11) = true)
    (a12 : PySem.W.nsIn K mainGlobals "_law_feed" = some (some (.ref f12))) (l12 : K.lookup f12 = some ⟨oc12, od12, .func (PySem.W.fnOf "_law_feed" "_law_feed" (defArgs sFeed) (defBody sFeed) (defScope sFeed) .none kV12 dc12 pm12 an12 cd12 ct12), sl12⟩) (c12 : PySem.W.codeIn K cd12 "_law_feed" = true) (k12 : PySem.W.keepIn K (.ref f12) = true)
    (a13 : PySem.W.nsIn K mainGlobals "_law_draw" = some (some (.ref f13))) (l13 : K.lookup f13 = some ⟨oc13, od13, .func (PySem.W.fnOf "_law_draw" "_law_draw" (defArgs sDraw) (defBody sDraw) (defScope sDraw) .none kV13 dc13 pm13 an13 cd13 ct13), sl13⟩) (c13 : PySem.W.codeIn K cd13 "_law_draw" = true) (k13 : PySem.W.keepIn K (.ref f13) = true)
    (a14 : PySem.W.nsIn K mainGlobals "_law_value" = some (some (.ref f14))) (l14 : K.lookup f14 = some ⟨oc14, od14, .func (PySem.W.fnOf "_law_value" "_law_value" (defArgs sLawValue) (defBody sLawValue) (defScope sLawValue) .none kV14 dc14 pm14 an14 cd14 ct14), sl14⟩) (c14 : PySem.W.codeIn K cd14 "_law_value" = true) (k14 : PySem.W.keepIn K (.ref f14) = true)
    (a15 : PySem.W.nsIn K mainGlobals "_law_spelled" = some (some (.ref f15))) (l15 : K.lookup f15 = some ⟨oc15, od15, .func (PySem.W.fnOf "_law_spelled" "_law_spelled" (defArgs sSpelled) (defBody sSpelled) (defScope sSpelled) .none kV15 dc15 pm15 an15 cd15 ct15), sl15⟩) (c15 : PySem.W.codeIn K cd15 "_law_spelled" = true) (k15 : PySem.W.keepIn K (.ref f15) = true)
    (a16 : PySem.W.nsIn K mainGlobals "_law_name" = some (some (.ref f16))) (l16 : K.lookup f16 = some ⟨oc16, od16, .func (PySem.W.fnOf "_law_name" "_law_name" (defArgs sLawName) (defBody sLawName) (defScope sLawName) .none kV16 dc16 pm16 an16 cd16 ct16), sl16⟩) (c16 : PySem.W.codeIn K cd16 "_law_name" = true) (k16 : PySem.W.keepIn K (.ref f16) = true)
    (a17 : PySem.W.nsIn K mainGlobals "_law_parts" = some (some (.ref f17))) (l17 : K.lookup f17 = some ⟨oc17, od17, .func (PySem.W.fnOf "_law_parts" "_law_parts" (defArgs sLawParts) (defBody sLawParts) (defScope sLawParts) .none kV17 dc17 pm17 an17 cd17 ct17), sl17⟩) (c17 : PySem.W.codeIn K cd17 "_law_parts" = true) (k17 : PySem.W.keepIn K (.ref f17) = true)
    (a18 : PySem.W.nsIn K mainGlobals "_law_nodes" = some (some (.ref f18))) (l18 : K.lookup f18 = some ⟨oc18, od18, .func (PySem.W.fnOf "_law_nodes" "_law_nodes" (defArgs sLawNodes) (defBody sLawNodes) (defScope sLawNodes) .none kV18 dc18 pm18 an18 cd18 ct18), sl18⟩) (c18 : PySem.W.codeIn K cd18 "_law_nodes" = true) (k18 : PySem.W.keepIn K (.ref f18) = true)
    (a19 : PySem.W.nsIn K mainGlobals "_law_far" = some (some (.ref f19))) (l19 : K.lookup f19 = some ⟨oc19, od19, .func (PySem.W.fnOf "_law_far" "_law_far" (defArgs sFar) (defBody sFar) (defScope sFar) .none kV19 dc19 pm19 an19 cd19 ct19), sl19⟩) (c19 : PySem.W.codeIn K cd19 "_law_far" = true) (k19 : PySem.W.keepIn K (.ref f19) = true)
    (a20 : PySem.W.nsIn K mainGlobals "_law_form" = some (some (.ref f20))) (l20 : K.lookup f20 = some ⟨oc20, od20, .func (PySem.W.fnOf "_law_form" "_law_form" (defArgs sForm) (defBody sForm) (defScope sForm) .none kV20 dc20 pm20 an20 cd20 ct20), sl20⟩) (c20 : PySem.W.codeIn K cd20 "_law_form" = true) (k20 : PySem.W.keepIn K (.ref f20) = true)
    (a21 : PySem.W.nsIn K mainGlobals "_law_odd" = some (some (.ref f21))) (l21 : K.lookup f21 = some ⟨oc21, od21, .func (PySem.W.fnOf "_law_odd" "_law_odd" (defArgs sOdd) (defBody sOdd) (defScope sOdd) .none kV21 dc21 pm21 an21 cd21 ct21), sl21⟩) (c21 : PySem.W.codeIn K cd21 "_law_odd" = true) (k21 : PySem.W.keepIn K (.ref f21) = true)
    (a22 : PySem.W.nsIn K mainGlobals "_law_bent" = some (some (.ref f22))) (l22 : K.lookup f22 = some ⟨oc22, od22, .func (PySem.W.fnOf "_law_bent" "_law_bent" (defArgs sBent) (defBody sBent) (defScope sBent) .none kV22 dc22 pm22 an22 cd22 ct22), sl22⟩) (c22 : PySem.W.codeIn K cd22 "_law_bent" = true) (k22 : PySem.W.keepIn K (.ref f22) = true)
    (a23 : PySem.W.nsIn K mainGlobals "_law_whole" = some (some (.ref f23))) (l23 : K.lookup f23 = some ⟨oc23, od23, .func (PySem.W.fnOf "_law_whole" "_law_whole" (defArgs sLawWhole) (defBody sLawWhole) (defScope sLawWhole) .none kV23 dc23 pm23 an23 cd23 ct23), sl23⟩) (c23 : PySem.W.codeIn K cd23 "_law_whole" = true) (k23 : PySem.W.keepIn K (.ref f23) = true)
    (a24 : PySem.W.nsIn K mainGlobals "_law_is_name" = some (some (.ref f24))) (l24 : K.lookup f24 = some ⟨oc24, od24, .func (PySem.W.fnOf "_law_is_name" "_law_is_name" (defArgs sLawIsName) (defBody sLawIsName) (defScope sLawIsName) .none kV24 dc24 pm24 an24 cd24 ct24), sl24⟩) (c24 : PySem.W.codeIn K cd24 "_law_is_name" = true) (k24 : PySem.W.keepIn K (.ref f24) = true)
    (a25 : PySem.W.nsIn K mainGlobals "_law_second" = some (some (.ref f25))) (l25 : K.lookup f25 = some ⟨oc25, od25, .func (PySem.W.fnOf "_law_second" "_law_second" (defArgs sLawSecond) (defBody sLawSecond) (defScope sLawSecond) .none kV25 dc25 pm25 an25 cd25 ct25), sl25⟩) (c25 : PySem.W.codeIn K cd25 "_law_second" = true) (k25 : PySem.W.keepIn K (.ref f25) = true)
    (a26 : PySem.W.nsIn K mainGlobals "_law_is" = some (some (.ref f26))) (l26 : K.lookup f26 = some ⟨oc26, od26, .func (PySem.W.fnOf "_law_is" "_law_is" (defArgs sLawIs) (defBody sLawIs) (defScope sLawIs) .none kV26 dc26 pm26 an26 cd26 ct26), sl26⟩) (c26 : PySem.W.codeIn K cd26 "_law_is" = true) (k26 : PySem.W.keepIn K (.ref f26) = true)
    (a27 : PySem.W.nsIn K mainGlobals "law" = some (some (.ref f27))) (l27 : K.lookup f27 = some ⟨oc27, od27, .func (PySem.W.fnOf "law" "law" (defArgs sLaw) (defBody sLaw) (defScope sLaw) .none kV27 dc27 pm27 an27 cd27 ct27), sl27⟩) (c27 : PySem.W.codeIn K cd27 "law" = true) (k27 : PySem.W.keepIn K (.ref f27) = true)
    (q_isinstance : PySem.W.nsIn K mainGlobals "isinstance" = some none)
    (q_int : PySem.W.nsIn K mainGlobals "int" = some none)
    (q_bool : PySem.W.nsIn K mainGlobals "bool" = some none)
    (q_str : PySem.W.nsIn K mainGlobals "str" = some none)
    (q_tuple : PySem.W.nsIn K mainGlobals "tuple" = some none)
    (q_len : PySem.W.nsIn K mainGlobals "len" = some none)
    (q_all : PySem.W.nsIn K mainGlobals "all" = some none)
    (q_list : PySem.W.nsIn K mainGlobals "list" = some none)
    (q_range : PySem.W.nsIn K mainGlobals "range" = some none)
    (q_sum : PySem.W.nsIn K mainGlobals "sum" = some none)
    (gW : PySem.W.nsIn K mainGlobals "WORDS" = some (some (.ref aW)))
    (lW : K.lookup aW = some ⟨.type "tuple", odW, .seq itsW nW, slW⟩)
    (vW : Vals wordsV itsW.toList)
    (gS : PySem.W.nsIn K mainGlobals "SIGNS" = some (some (.ref aS)))
    (lS : K.lookup aS = some ⟨.type "tuple", odS, .seq itsS nS, slS⟩)
    (vS : Vals (signsL.map V.str) itsS.toList)
    (gL : PySem.W.nsIn K mainGlobals "LONGEST_NAME" = some (some (.int 8 tkL)))
    (gV : PySem.W.nsIn K mainGlobals "GREATEST_VALUE" = some (some (.int 999999999 tkV)))
    (gT : PySem.W.nsIn K mainGlobals "MOST_TIMES" = some (some (.int 5 tkT)))
    (gR : PySem.W.nsIn K mainGlobals "RULES" = some (some (.ref aR)))
    (lR : K.lookup aR = some ⟨.type "dict", none, .dict esR epR, #[]⟩)
    (eR : KEnt w esR.toList (kvRof r0 r1 r2 r3 r4 r5 r6 r7 r8 r9 r10))
    (gB : PySem.W.nsIn K mainGlobals "BARE_RULES" = some (some (.ref aB)))
    (lB : K.lookup aB = some ⟨.type "dict", none, .dict esB epB, #[]⟩)
    (eB : KEnt w esB.toList (kvBof r11 r12 r13))
    (lr0 : K.lookup r0 = some ⟨.type "tuple", odr0, .seq its0 nr0, slr0⟩)
    (vr0 : Vals [(.ref f2), .int 0, .int 0] its0.toList)
    (lr1 : K.lookup r1 = some ⟨.type "tuple", odr1, .seq its1 nr1, slr1⟩)
    (vr1 : Vals [(.ref f1), .int 0, .int 0] its1.toList)
    (lr2 : K.lookup r2 = some ⟨.type "tuple", odr2, .seq its2 nr2, slr2⟩)
    (vr2 : Vals [(.ref f3), .int 2, .int 2] its2.toList)
    (lr3 : K.lookup r3 = some ⟨.type "tuple", odr3, .seq its3 nr3, slr3⟩)
    (vr3 : Vals [.non, .int 3, .int 3] its3.toList)
    (lr4 : K.lookup r4 = some ⟨.type "tuple", odr4, .seq its4 nr4, slr4⟩)
    (vr4 : Vals [(.ref f1), .int 2, .int 2] its4.toList)
    (lr5 : K.lookup r5 = some ⟨.type "tuple", odr5, .seq its5 nr5, slr5⟩)
    (vr5 : Vals [(.ref f1), .int 1, .int 1] its5.toList)
    (lr6 : K.lookup r6 = some ⟨.type "tuple", odr6, .seq its6 nr6, slr6⟩)
    (vr6 : Vals [.non, .int 1, .int 1] its6.toList)
    (lr7 : K.lookup r7 = some ⟨.type "tuple", odr7, .seq its7 nr7, slr7⟩)
    (vr7 : Vals [.non, .int 0, .int 0] its7.toList)
    (lr8 : K.lookup r8 = some ⟨.type "tuple", odr8, .seq its8 nr8, slr8⟩)
    (vr8 : Vals [.non, .int 1, .int 6] its8.toList)
    (lr9 : K.lookup r9 = some ⟨.type "tuple", odr9, .seq its9 nr9, slr9⟩)
    (vr9 : Vals [(.ref f4), .int 1, .int 1] its9.toList)
    (lr10 : K.lookup r10 = some ⟨.type "tuple", odr10, .seq its10 nr10, slr10⟩)
    (vr10 : Vals [(.ref f1), .int 0, .int 6] its10.toList)
    (lr11 : K.lookup r11 = some ⟨.type "tuple", odr11, .seq its11 nr11, slr11⟩)
    (vr11 : Vals [.non, .int 2, .int 2] its11.toList)
    (lr12 : K.lookup r12 = some ⟨.type "tuple", odr12, .seq its12 nr12, slr12⟩)
    (vr12 : Vals [(.ref f9), .int 0, .int 0] its12.toList)
    (lr13 : K.lookup r13 = some ⟨.type "tuple", odr13, .seq its13 nr13, slr13⟩)
    (vr13 : Vals [(.ref f9), .int 0, .int 0] its13.toList)
    (smR : (aR == sysModules) = false)
    (smB : (aB == sysModules) = false)
    (ndF : [f2, f1, f3, f4, f9].Nodup)
    (kt_NoneType_int : PySem.W.kitOne K (.type "NoneType") (.type "int") = some false)
    (kt_bool_int : PySem.W.kitOne K (.type "bool") (.type "int") = some true)
    (kt_int_int : PySem.W.kitOne K (.type "int") (.type "int") = some true)
    (kt_str_int : PySem.W.kitOne K (.type "str") (.type "int") = some false)
    (kt_tuple_int : PySem.W.kitOne K (.type "tuple") (.type "int") = some false)
    (kt_list_int : PySem.W.kitOne K (.type "list") (.type "int") = some false)
    (kt_NoneType_bool : PySem.W.kitOne K (.type "NoneType") (.type "bool") = some false)
    (kt_bool_bool : PySem.W.kitOne K (.type "bool") (.type "bool") = some true)
    (kt_int_bool : PySem.W.kitOne K (.type "int") (.type "bool") = some false)
    (kt_str_bool : PySem.W.kitOne K (.type "str") (.type "bool") = some false)
    (kt_tuple_bool : PySem.W.kitOne K (.type "tuple") (.type "bool") = some false)
    (kt_list_bool : PySem.W.kitOne K (.type "list") (.type "bool") = some false)
    (kt_NoneType_str : PySem.W.kitOne K (.type "NoneType") (.type "str") = some false)
    (kt_bool_str : PySem.W.kitOne K (.type "bool") (.type "str") = some false)
    (kt_int_str : PySem.W.kitOne K (.type "int") (.type "str") = some false)
    (kt_str_str : PySem.W.kitOne K (.type "str") (.type "str") = some true)
    (kt_tuple_str : PySem.W.kitOne K (.type "tuple") (.type "str") = some false)
    (kt_list_str : PySem.W.kitOne K (.type "list") (.type "str") = some false)
    (kt_NoneType_tuple : PySem.W.kitOne K (.type "NoneType") (.type "tuple") = some false)
    (kt_bool_tuple : PySem.W.kitOne K (.type "bool") (.type "tuple") = some false)
    (kt_int_tuple : PySem.W.kitOne K (.type "int") (.type "tuple") = some false)
    (kt_str_tuple : PySem.W.kitOne K (.type "str") (.type "tuple") = some false)
    (kt_tuple_tuple : PySem.W.kitOne K (.type "tuple") (.type "tuple") = some true)
    (kt_list_tuple : PySem.W.kitOne K (.type "list") (.type "tuple") = some false) :
    ∃ fd : FuncData, (∀ (s : Shared) (v : Value), BindsTo s fd ⟨[v], []⟩ [("_law_script", v)]) ∧ ∀ base : Heap, K.In base → base.Ns mainGlobals mg → FnOk l.prog w K mg base CX0 23 fa fd ["_law_script"] (spLaw K) := by
  have e := hfa.symm.trans (PySem.W.mg_of X G a27)
  cases e
  have F0 := fun_mk (st := sWhole) l0 c0 k0
  have b0 := F0.binds (ps := ["thing"]) fun _ _ _ _ _ _ us hl => match us, hl with | [_], _ => rfl
  have m0 := PySem.W.mg_of X G a0
  have F1 := fun_mk (st := sIsName) l1 c1 k1
  have b1 := F1.binds (ps := ["thing"]) fun _ _ _ _ _ _ us hl => match us, hl with | [_], _ => rfl
  have m1 := PySem.W.mg_of X G a1
  have F2 := fun_mk (st := sValue) l2 c2 k2
  have b2 := F2.binds (ps := ["thing"]) fun _ _ _ _ _ _ us hl => match us, hl with | [_], _ => rfl
  have m2 := PySem.W.mg_of X G a2
  have F3 := fun_mk (st := sSign) l3 c3 k3
  have b3 := F3.binds (ps := ["thing"]) fun _ _ _ _ _ _ us hl => match us, hl with | [_], _ => rfl
  have m3 := PySem.W.mg_of X G a3
  have F4 := fun_mk (st := sTimes) l4 c4 k4
  have b4 := F4.binds (ps := ["thing"]) fun _ _ _ _ _ _ us hl => match us, hl with | [_], _ => rfl
  have m4 := PySem.W.mg_of X G a4
  have F5 := fun_mk (st := sExprRule) l5 c5 k5
  have b5 := F5.binds (ps := ["word"]) fun _ _ _ _ _ _ us hl => match us, hl with | [_], _ => rfl
  have m5 := PySem.W.mg_of X G a5
  have F6 := fun_mk (st := sNode) l6 c6 k6
  have b6 := F6.binds (ps := ["thing", "rule_of"]) fun _ _ _ _ _ _ us hl => match us, hl with | [_, _], _ => rfl
  have m6 := PySem.W.mg_of X G a6
  have F7 := fun_mk (st := sTree) l7 c7 k7
  have b7 := F7.binds (ps := ["thing", "rule_of"]) fun _ _ _ _ _ _ us hl => match us, hl with | [_, _], _ => rfl
  have m7 := PySem.W.mg_of X G a7
  have F8 := fun_mk (st := sParts) l8 c8 k8
  have b8 := F8.binds (ps := ["e"]) fun _ _ _ _ _ _ us hl => match us, hl with | [_], _ => rfl
  have m8 := PySem.W.mg_of X G a8
  have F9 := fun_mk (st := sNumber) l9 c9 k9
  have b9 := F9.binds (ps := ["thing"]) fun _ _ _ _ _ _ us hl => match us, hl with | [_], _ => rfl
  have m9 := PySem.W.mg_of X G a9
  have F10 := fun_mk (st := sBareRule) l10 c10 k10
  have b10 := F10.binds (ps := ["word"]) fun _ _ _ _ _ _ us hl => match us, hl with | [_], _ => rfl
  have m10 := PySem.W.mg_of X G a10
  have F11 := fun_mk (st := sBare) l11 c11 k11
  have b11 := F11.binds (ps := ["thing"]) fun _ _ _ _ _ _ us hl => match us, hl with | [_], _ => rfl
  have m11 := PySem.W.mg_of X G a11
  have F12 := fun_mk (st := sFeed) l12 c12 k12
  have b12 := F12.binds (ps := ["_law_script"]) fun _ _ _ _ _ _ us hl => match us, hl with | [_], _ => rfl
  have m12 := PySem.W.mg_of X G a12
  have F13 := fun_mk (st := sDraw) l13 c13 k13
  have b13 := F13.binds (ps := ["_law_feed_here", "_law_many"]) fun _ _ _ _ _ _ us hl => match us, hl with | [_, _], _ => rfl
  have m13 := PySem.W.mg_of X G a13
  have F14 := fun_mk (st := sLawValue) l14 c14 k14
  have b14 := F14.binds (ps := ["_law_feed_here"]) fun _ _ _ _ _ _ us hl => match us, hl with | [_], _ => rfl
  have m14 := PySem.W.mg_of X G a14
  have F15 := fun_mk (st := sSpelled) l15 c15 k15
  have b15 := F15.binds (ps := ["_law_number", "_law_long"]) fun _ _ _ _ _ _ us hl => match us, hl with | [_, _], _ => rfl
  have m15 := PySem.W.mg_of X G a15
  have F16 := fun_mk (st := sLawName) l16 c16 k16
  have b16 := F16.binds (ps := ["_law_feed_here", "_law_taken"]) fun _ _ _ _ _ _ us hl => match us, hl with | [_, _], _ => rfl
  have m16 := PySem.W.mg_of X G a16
  have F17 := fun_mk (st := sLawParts) l17 c17 k17
  have b17 := F17.binds (ps := ["_law_e"]) fun _ _ _ _ _ _ us hl => match us, hl with | [_], _ => rfl
  have m17 := PySem.W.mg_of X G a17
  have F18 := fun_mk (st := sLawNodes) l18 c18 k18
  have b18 := F18.binds (ps := ["_law_e"]) fun _ _ _ _ _ _ us hl => match us, hl with | [_], _ => rfl
  have m18 := PySem.W.mg_of X G a18
  have F19 := fun_mk (st := sFar) l19 c19 k19
  have b19 := F19.binds (ps := ["_law_feed_here"]) fun _ _ _ _ _ _ us hl => match us, hl with | [_], _ => rfl
  have m19 := PySem.W.mg_of X G a19
  have F20 := fun_mk (st := sForm) l20 c20 k20
  have b20 := F20.binds (ps := ["_law_feed_here", "_law_world", "_law_below"]) fun _ _ _ _ _ _ us hl => match us, hl with | [_, _, _], _ => rfl
  have m20 := PySem.W.mg_of X G a20
  have F21 := fun_mk (st := sOdd) l21 c21 k21
  have b21 := F21.binds (ps := ["_law_feed_here", "_law_e"]) fun _ _ _ _ _ _ us hl => match us, hl with | [_, _], _ => rfl
  have m21 := PySem.W.mg_of X G a21
  have F22 := fun_mk (st := sBent) l22 c22 k22
  have b22 := F22.binds (ps := ["_law_feed_here", "_law_e", "_law_at"]) fun _ _ _ _ _ _ us hl => match us, hl with | [_, _, _], _ => rfl
  have m22 := PySem.W.mg_of X G a22
  have F23 := fun_mk (st := sLawWhole) l23 c23 k23
  have b23 := F23.binds (ps := ["_law_thing", "_law_most"]) fun _ _ _ _ _ _ us hl => match us, hl with | [_, _], _ => rfl
  have m23 := PySem.W.mg_of X G a23
  have F24 := fun_mk (st := sLawIsName) l24 c24 k24
  have b24 := F24.binds (ps := ["_law_thing"]) fun _ _ _ _ _ _ us hl => match us, hl with | [_], _ => rfl
  have m24 := PySem.W.mg_of X G a24
  have F25 := fun_mk (st := sLawSecond) l25 c25 k25
  have b25 := F25.binds (ps := ["_law_word", "_law_thing"]) fun _ _ _ _ _ _ us hl => match us, hl with | [_, _], _ => rfl
  have m25 := PySem.W.mg_of X G a25
  have F26 := fun_mk (st := sLawIs) l26 c26 k26
  have b26 := F26.binds (ps := ["_law_thing"]) fun _ _ _ _ _ _ us hl => match us, hl with | [_], _ => rfl
  have m26 := PySem.W.mg_of X G a26
  have F27 := fun_mk (st := sLaw) l27 c27 k27
  have z_isinstance := PySem.W.mg_none_of X G q_isinstance
  have z_int := PySem.W.mg_none_of X G q_int
  have z_bool := PySem.W.mg_none_of X G q_bool
  have z_str := PySem.W.mg_none_of X G q_str
  have z_tuple := PySem.W.mg_none_of X G q_tuple
  have z_len := PySem.W.mg_none_of X G q_len
  have z_all := PySem.W.mg_none_of X G q_all
  have z_list := PySem.W.mg_none_of X G q_list
  have z_range := PySem.W.mg_none_of X G q_range
  have z_sum := PySem.W.mg_none_of X G q_sum
  have T0 : Txt0 mg := ⟨z_len, z_list, z_range⟩
  have T : TxtT mg := ⟨z_isinstance, z_int, z_bool, z_str, z_tuple, z_len, z_all⟩
  have KI : Kits K := kits_of kt_NoneType_int kt_bool_int kt_int_int kt_str_int kt_tuple_int kt_list_int kt_NoneType_bool kt_bool_bool kt_int_bool kt_str_bool kt_tuple_bool kt_list_bool kt_NoneType_str kt_bool_str kt_int_str kt_str_str kt_tuple_str kt_list_str kt_NoneType_tuple kt_bool_tuple kt_int_tuple kt_str_tuple kt_tuple_tuple kt_list_tuple
  have mgW := PySem.W.mg_of X G gW
  have mgS := PySem.W.mg_of X G gS
  have mgL := PySem.W.mg_of X G gL
  have mgV := PySem.W.mg_of X G gV
  have mgT := PySem.W.mg_of X G gT
  have mgR := PySem.W.mg_of X G gR
  have mgB := PySem.W.mg_of X G gB
  have TN : TxtN K mg aW := ⟨z_len, z_isinstance, z_str, z_all, ⟨_, mgL⟩, mgW, sq_of lW vW (by decide +kernel)⟩
  have sqS := sq_of lS vS (by decide +kernel)
  have TA : Tables K w mg (fitsOf f2 f1 f3 f4) (PfOf f2 f1 f3 f4 f9) aR aB (kvRof r0 r1 r2 r3 r4 r5 r6 r7 r8 r9 r10) (kvBof r11 r12 r13) := ⟨mgR, mgB, ⟨⟨_, esR, epR, lR, rfl, rfl, rfl, rfl, eR⟩, ndR_, smR⟩, ⟨⟨_, esB, epB, lB, rfl, rfl, rfl, rfl, eB⟩, ndB_, smB⟩, at_of_rules ndF (sq_of lr0 vr0 (by show 3 ≤ 1000; decide)) (sq_of lr1 vr1 (by show 3 ≤ 1000; decide)) (sq_of lr2 vr2 (by show 3 ≤ 1000; decide)) (sq_of lr3 vr3 (by show 3 ≤ 1000; decide)) (sq_of lr5 vr5 (by show 3 ≤ 1000; decide)) (sq_of lr6 vr6 (by show 3 ≤ 1000; decide)) (sq_of lr7 vr7 (by show 3 ≤ 1000; decide)) (sq_of lr8 vr8 (by show 3 ≤ 1000; decide)) (sq_of lr9 vr9 (by show 3 ≤ 1000; decide)) (sq_of lr10 vr10 (by show 3 ≤ 1000; decide)) (sq_of lr11 vr11 (by show 3 ≤ 1000; decide)) (sq_of lr12 vr12 (by show 3 ≤ 1000; decide)) (sq_of lr13 vr13 (by show 3 ≤ 1000; decide))⟩
  have U : Helpers K mg f13 f15 _ _ := ⟨T0, F13, b13, m13, F15, b15, m15⟩
  have MK : Makers K mg f16 f14 f19 _ _ _ := ⟨F16, b16, m16, F14, b14, m14, F19, b19, m19⟩
  refine ⟨PySem.W.fnOf "law" "law" (defArgs sLaw) (defBody sLaw) (defScope sLaw) .none kV27 dc27 pm27 an27 cd27 ct27, fun s v => .of_eq rfl, fun base _ _ => ?_⟩
  have nd := ndF
  simp only [List.nodup_cons, List.mem_cons, List.not_mem_nil, or_false, not_or, List.nodup_nil, and_true, not_false_eq_true] at nd
  obtain ⟨⟨nVN, nVS, nVT, nVM⟩, ⟨nNS, nNT, nNM⟩, ⟨nST, nSM⟩, nTM⟩ := nd
  have GB := ok_barerule (P := l.prog) (w := w) (base := base) F10 TA F5 b5 m5
  have GNd := ok_node (P := l.prog) (w := w) (base := base) (fits := fitsOf f2 f1 f3 f4) (Pf := PfOf f2 f1 f3 f4 f9) (fR := f10) (dR := PySem.W.fnOf "law" "law" (defArgs sLaw) (defBody sLaw) (defScope sLaw) .none kV27 dc27 pm27 an27 cd27 ct27) F6 T KI (fun g hg => by subst hg; exact ⟨_, _, GB, F10.kp, b10⟩) (fun g hg => by
    rcases hg with rfl | rfl | rfl | rfl | rfl
    · have e : fitsOf g f1 f3 f4 g = fun t => inRange t (some 999999999) := by unfold fitsOf; rw [if_pos rfl]
      rw [e]; exact ⟨_, _, ok_value F2 T KI F0 b0 m0 mgV, F2.kp, b2⟩
    · have e : fitsOf f2 g f3 f4 g = nameB := by unfold fitsOf; rw [if_neg (Ne.symm nVN), if_pos rfl]
      rw [e]; exact ⟨_, _, (ok_nameT F1 TN KI).mono (by decide), F1.kp, b1⟩
    · have e : fitsOf f2 f1 g f4 g = signB := by unfold fitsOf; rw [if_neg (Ne.symm nVS), if_neg (Ne.symm nNS), if_pos rfl]
      rw [e]; exact ⟨_, _, (ok_sign F3 T KI mgS sqS).mono (by decide), F3.kp, b3⟩
    · have e : fitsOf f2 f1 f3 g g = fun t => inRange t (some 5) := by unfold fitsOf; rw [if_neg (Ne.symm nVT), if_neg (Ne.symm nNT), if_neg (Ne.symm nST), if_pos rfl]
      rw [e]; exact ⟨_, _, ok_times F4 T KI F0 b0 m0 mgT, F4.kp, b4⟩
    · have e : fitsOf f2 f1 f3 f4 g = fun t => inRange t none := by unfold fitsOf; rw [if_neg (Ne.symm nVM), if_neg (Ne.symm nNM), if_neg (Ne.symm nSM), if_neg (Ne.symm nTM)]
      rw [e]; exact ⟨_, _, ok_number F9 T KI F0 b0 m0, F9.kp, b9⟩)
  have GTr := ok_tree (P := l.prog) (w := w) (base := base) (fR := f10) F7 T KI GNd F6 b6 m6 F8 b8 m8
  have GBr := ok_bare (P := l.prog) (w := w) (base := base) F11 GTr F7 b7 m7 m10
  have GP := ok_lawparts (P := l.prog) (w := w) (mg := mg) (base := base) F17 T KI
  have GNo := ok_lawnodes (P := l.prog) (w := w) (base := base) F18 b18 m18 T KI z_sum F17 b17 m17
  have GFo := ok_form (P := l.prog) (w := w) (base := base) F20 b20 m20 U MK z_tuple
  have GOd := ok_odd (P := l.prog) (w := w) (base := base) F21 U F16 b16 m16
  have GBe := ok_bent (P := l.prog) (w := w) (base := base) F22 b22 m22 T0 z_tuple GOd F21 b21 m21 GP F17 b17 m17 GNo F18 b18 m18
  have GSe := ok_lawsecond (P := l.prog) (w := w) (base := base) F25 T KI F23 b23 m23 F24 b24 m24
  have GIs := ok_lawis (P := l.prog) (w := w) (base := base) F26 b26 m26 T KI z_list GSe F25 b25 m25
  exact ok_law F27 U T F12 b12 m12 (GFo 6) F20 b20 m20 GBr F11 b11 m11 (GNo 6) F18 b18 m18 (GBe 6) F22 b22 m22 (GIs 19) F26 b26 m26
theorem walk {l : PySem.W.OpenLaw} {q : Program} {loose : List Str} {XP : (Str → Option Value) → Heap → Prop} {YP : World → Heap → Prop} {d : DefRec} {K : Params → PySem.W.Frag} (hn : l.most = some 63) (hdf : d.params.defaults = [])
    (hY : ∀ (w : World) (h : Heap), YP w h → (K w.params).In h)
    (F : ∀ (w : World) (mg : Str → Option Value) (fa : Addr) (h : Heap), (K w.params).In h → h.Ns mainGlobals mg → mg d.name = some (.ref fa) →
      ∃ fd : FuncData, (∀ (s : Shared) (u : Value), BindsTo s fd ⟨[u], []⟩ [("_law_script", u)]) ∧ ∀ base : Heap, (K w.params).In base → base.Ns mainGlobals mg → FnOk l.prog w (K w.params) mg base CX0 23 fa fd ["_law_script"] (spLaw (K w.params))) :
    PySem.W.WalkO q loose XP YP l.row.toRowW d [] (fun f vs => PySem.call f vs) :=
  L2.walk_of (n := 63) (k := 23) (x := "_law_script") (CX := fun _ => CX0) (sp := fun w => spLaw (K w.params)) hn (by decide) hdf ⟨rfl, rfl, by decide, by decide⟩ hY F (fun _ _ a ns hl _ hS => ⟨a, ns, rfl, hS, hl, fun _ => rfl⟩) fun _ _ _ _ _ z => z
end K08

open PySem PySem.W PyProof.Rows
set_option Elab.async false
set_option maxRecDepth 100000 in
set_option maxHeartbeats 0 in
theorem PySem.Challenge.cw_likepieces_k08_bare_forms_known_holds : PySem.Challenge.rw_likepieces_k08_bare_forms_known.Holds := by
  w_on; o_law; k_head; (case hw => w_witness2)
  k_fill
  refine K08.walk (l := PySem.Challenge.rw_likepieces_k08_bare_forms_known) rfl rfl (fun w h Y => PySem.W.kIn_of Y) ?F
  case F =>
    intro w mg fa h KX G hmg
    refine' K08.all_mk KX G hmg ?a0 ?l0 ?c0 ?k0 ?a1 ?l1 ?c1 ?k1 ?a2 ?l2 ?c2 ?k2 ?a3 ?l3 ?c3 ?k3 ?a4 ?l4 ?c4 ?k4 ?a5 ?l5 ?c5 ?k5 ?a6 ?l6 ?c6 ?k6 ?a7 ?l7 ?c7 ?k7 ?a8 ?l8 ?c8 ?k8 ?a9 ?l9 ?c9 ?k9 ?a10 ?l10 ?c10 ?k10 ?a11 ?l11 ?c11 ?k11 ?a12 ?l12 ?c12 ?k12 ?a13 ?l13 ?c13 ?k13 ?a14 ?l14 ?c14 ?k14 ?a15 ?l15 ?c15 ?k15 ?a16 ?l16 ?c16 ?k16 ?a17 ?l17 ?c17 ?k17 ?a18 ?l18 ?c18 ?k18 ?a19 ?l19 ?c19 ?k19 ?a20 ?l20 ?c20 ?k20 ?a21 ?l21 ?c21 ?k21 ?a22 ?l22 ?c22 ?k22 ?a23 ?l23 ?c23 ?k23 ?a24 ?l24 ?c24 ?k24 ?a25 ?l25 ?c25 ?k25 ?a26 ?l26 ?c26 ?k26 ?a27 ?l27 ?c27 ?k27 ?q_isinstance ?q_int ?q_bool ?q_str ?q_tuple ?q_len ?q_all ?q_list ?q_range ?q_sum ?gW ?lW ?vW ?gS ?lS ?vS ?gL ?gV ?gT ?gR ?lR ?eR ?gB ?lB ?eB ?lr0 ?vr0 ?lr1 ?vr1 ?lr2 ?vr2 ?lr3 ?vr3 ?lr4 ?vr4 ?lr5 ?vr5 ?lr6 ?vr6 ?lr7 ?vr7 ?lr8 ?vr8 ?lr9 ?vr9 ?lr10 ?vr10 ?lr11 ?vr11 ?lr12 ?vr12 ?lr13 ?vr13 ?smR ?smB ?ndF ?kt_NoneType_int ?kt_bool_int ?kt_int_int ?kt_str_int ?kt_tuple_int ?kt_list_int ?kt_NoneType_bool ?kt_bool_bool ?kt_int_bool ?kt_str_bool ?kt_tuple_bool ?kt_list_bool ?kt_NoneType_str ?kt_bool_str ?kt_int_str ?kt_str_str ?kt_tuple_str ?kt_list_str ?kt_NoneType_tuple ?kt_bool_tuple ?kt_int_tuple ?kt_str_tuple ?kt_tuple_tuple ?kt_list_tuple
    (case a0 => k_is)
    (case l0 => k_is)
    (case c0 => k_is)
    (case k0 => k_is)
    (case a1 => k_is)
    (case l1 => k_is)
    (case c1 => k_is)
    (case k1 => k_is)
    (case a2 => k_is)
    (case l2 => k_is)
    (case c2 => k_is)
    (case k2 => k_is)
    (case a3 => k_is)
    (case l3 => k_is)
    (case c3 => k_is)
    (case k3 => k_is)
    (case a4 => k_is)
    (case l4 => k_is)
    (case c4 => k_is)
    (case k4 => k_is)
    (case a5 => k_is)
    (case l5 => k_is)
    (case c5 => k_is)
    (case k5 => k_is)
    (case a6 => k_is)
    (case l6 => k_is)
    (case c6 => k_is)
    (case k6 => k_is)
    (case a7 => k_is)
    (case l7 => k_is)
    (case c7 => k_is)
    (case k7 => k_is)
    (case a8 => k_is)
    (case l8 => k_is)
    (case c8 => k_is)
    (case k8 => k_is)
    (case a9 => k_is)
    (case l9 => k_is)
    (case c9 => k_is)
    (case k9 => k_is)
    (case a10 => k_is)
    (case l10 => k_is)
    (case c10 => k_is)
    (case k10 => k_is)
    (case a11 => k_is)
    (case l11 => k_is)
    (case c11 => k_is)
    (case k11 => k_is)
    (case a12 => k_is)
    (case l12 => k_is)
    (case c12 => k_is)
    (case k12 => k_is)
    (case a13 => k_is)
    (case l13 => k_is)
    (case c13 => k_is)
    (case k13 => k_is)
    (case a14 => k_is)
    (case l14 => k_is)
    (case c14 => k_is)
    (case k14 => k_is)
    (case a15 => k_is)
    (case l15 => k_is)
    (case c15 => k_is)
    (case k15 => k_is)
    (case a16 => k_is)
    (case l16 => k_is)
    (case c16 => k_is)
    (case k16 => k_is)
    (case a17 => k_is)
    (case l17 => k_is)
    (case c17 => k_is)
    (case k17 => k_is)
    (case a18 => k_is)
    (case l18 => k_is)
    (case c18 => k_is)
    (case k18 => k_is)
    (case a19 => k_is)
    (case l19 => k_is)
    (case c19 => k_is)
    (case k19 => k_is)
    (case a20 => k_is)
    (case l20 => k_is)
    (case c20 => k_is)
    (case k20 => k_is)
    (case a21 => k_is)
    (case l21 => k_is)
    (case c21 => k_is)
    (case k21 => k_is)
    (case a22 => k_is)
    (case l22 => k_is)
    (case c22 => k_is)
    (case k22 => k_is)
    (case a23 => k_is)
    (case l23 => k_is)
    (case c23 => k_is)
    (case k23 => k_is)
    (case a24 => k_is)
    (case l24 => k_is)
    (case c24 => k_is)
    (case k24 => k_is)
    (case a25 => k_is)
    (case l25 => k_is)
    (case c25 => k_is)
    (case k25 => k_is)
    (case a26 => k_is)
    (case l26 => k_is)
    (case c26 => k_is)
    (case k26 => k_is)
    (case a27 => k_is)
    (case l27 => k_is)
    (case c27 => k_is)
    (case k27 => k_is)
    (case q_isinstance => k_is)
    (case q_int => k_is)
    (case q_bool => k_is)
    (case q_str => k_is)
    (case q_tuple => k_is)
    (case q_len => k_is)
    (case q_all => k_is)
    (case q_list => k_is)
    (case q_range => k_is)
    (case q_sum => k_is)
    (case gW => k_is)
    (case lW => k_is)
    (case vW => exact .cons ⟨_, rfl⟩ (.cons ⟨_, rfl⟩ (.cons ⟨_, rfl⟩ (.cons ⟨_, rfl⟩ (.cons ⟨_, rfl⟩ (.cons ⟨_, rfl⟩ (.cons ⟨_, rfl⟩ (.cons ⟨_, rfl⟩ (.cons ⟨_, rfl⟩ (.cons ⟨_, rfl⟩ (.cons ⟨_, rfl⟩ (.cons ⟨_, rfl⟩ (.cons ⟨_, rfl⟩ (.nil))))))))))))))
    (case gS => k_is)
    (case lS => k_is)
    (case vS => exact .cons ⟨_, rfl⟩ (.cons ⟨_, rfl⟩ (.cons ⟨_, rfl⟩ (.cons ⟨_, rfl⟩ (.cons ⟨_, rfl⟩ (.cons ⟨_, rfl⟩ (.nil)))))))
    (case gL => k_is)
    (case gV => k_is)
    (case gT => k_is)
    (case gR => k_is)
    (case lR => k_is)
    (case eR => exact .cons rfl (.cons rfl (.cons rfl (.cons rfl (.cons rfl (.cons rfl (.cons rfl (.cons rfl (.cons rfl (.cons rfl (.cons rfl (.nil))))))))))))
    (case gB => k_is)
    (case lB => k_is)
    (case eB => exact .cons rfl (.cons rfl (.cons rfl .nil)))
    (case lr0 => k_is)
    (case vr0 => exact .cons rfl (.cons ⟨_, rfl⟩ (.cons ⟨_, rfl⟩ .nil)))
    (case lr1 => k_is)
    (case vr1 => exact .cons rfl (.cons ⟨_, rfl⟩ (.cons ⟨_, rfl⟩ .nil)))
    (case lr2 => k_is)
    (case vr2 => exact .cons rfl (.cons ⟨_, rfl⟩ (.cons ⟨_, rfl⟩ .nil)))
    (case lr3 => k_is)
    (case vr3 => exact .cons rfl (.cons ⟨_, rfl⟩ (.cons ⟨_, rfl⟩ .nil)))
    (case lr4 => k_is)
    (case vr4 => exact .cons rfl (.cons ⟨_, rfl⟩ (.cons ⟨_, rfl⟩ .nil)))
    (case lr5 => k_is)
    (case vr5 => exact .cons rfl (.cons ⟨_, rfl⟩ (.cons ⟨_, rfl⟩ .nil)))
    (case lr6 => k_is)
    (case vr6 => exact .cons rfl (.cons ⟨_, rfl⟩ (.cons ⟨_, rfl⟩ .nil)))
    (case lr7 => k_is)
    (case vr7 => exact .cons rfl (.cons ⟨_, rfl⟩ (.cons ⟨_, rfl⟩ .nil)))
    (case lr8 => k_is)
    (case vr8 => exact .cons rfl (.cons ⟨_, rfl⟩ (.cons ⟨_, rfl⟩ .nil)))
    (case lr9 => k_is)
    (case vr9 => exact .cons rfl (.cons ⟨_, rfl⟩ (.cons ⟨_, rfl⟩ .nil)))
    (case lr10 => k_is)
    (case vr10 => exact .cons rfl (.cons ⟨_, rfl⟩ (.cons ⟨_, rfl⟩ .nil)))
    (case lr11 => k_is)
    (case vr11 => exact .cons rfl (.cons ⟨_, rfl⟩ (.cons ⟨_, rfl⟩ .nil)))
    (case lr12 => k_is)
    (case vr12 => exact .cons rfl (.cons ⟨_, rfl⟩ (.cons ⟨_, rfl⟩ .nil)))
    (case lr13 => k_is)
    (case vr13 => exact .cons rfl (.cons ⟨_, rfl⟩ (.cons ⟨_, rfl⟩ .nil)))
    (case smR => decide)
    (case smB => decide)
    (case ndF => decide)
    (case kt_NoneType_int => first | k_is | rfl | decide)
    (case kt_bool_int => first | k_is | rfl | decide)
    (case kt_int_int => first | k_is | rfl | decide)
    (case kt_str_int => first | k_is | rfl | decide)
    (case kt_tuple_int => first | k_is | rfl | decide)
    (case kt_list_int => first | k_is | rfl | decide)
    (case kt_NoneType_bool => first | k_is | rfl | decide)
    (case kt_bool_bool => first | k_is | rfl | decide)
    (case kt_int_bool => first | k_is | rfl | decide)
    (case kt_str_bool => first | k_is | rfl | decide)
    (case kt_tuple_bool => first | k_is | rfl | decide)
    (case kt_list_bool => first | k_is | rfl | decide)
    (case kt_NoneType_str => first | k_is | rfl | decide)
    (case kt_bool_str => first | k_is | rfl | decide)
    (case kt_int_str => first | k_is | rfl | decide)
    (case kt_str_str => first | k_is | rfl | decide)
    (case kt_tuple_str => first | k_is | rfl | decide)
    (case kt_list_str => first | k_is | rfl | decide)
    (case kt_NoneType_tuple => first | k_is | rfl | decide)
    (case kt_bool_tuple => first | k_is | rfl | decide)
    (case kt_int_tuple => first | k_is | rfl | decide)
    (case kt_str_tuple => first | k_is | rfl | decide)
    (case kt_tuple_tuple => first | k_is | rfl | decide)
    (case kt_list_tuple => first | k_is | rfl | decide)

