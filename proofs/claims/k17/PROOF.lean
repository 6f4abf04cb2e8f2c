import PyProof.Rows.All
import Wide.All
import OpenK.AllK
import Wide.FinOn
import Lean
import PyProof.EqAt
import PyProof.EqKinds
import PyProof.TupleCall
import PyProof.NeKinds
import PyProof.Rows.SortStr
import PyProof.Rows.SeqMore
import PyProof.Rows.CatFin
import PyProof.MeetsStr
import PyProof.Rows.SumAny
import PyProof.Rows.SortShell
import PyProof.Rows.SetFrom
import PyProof.DictWalks
import PyProof.Rows.SortReads
import KE.KDictSum
import PyProof.ZipIter
import PyProof.Rows.ZipGen
import PySem.Challenge.RW_likepieces_k17_patterns_got
set_option Elab.async false
set_option linter.all false
set_option maxRecDepth 100000
/-! THE HAND LAYER, for ints, bools, texts, own classes, LISTS and tuples (index, slices, in, append, pop ..), calls, loops. Paste it whole ahead of your own text; what your proof does not reach may be deleted. -/
namespace L2
open PySem PySem.Spec PyProof.Rows

/-- a key: an int or a str -/
abbrev Key := Sum Int Str
def keyIs : Key → Value → Bool
  | .inl k, v => Value.isInt k v
  | .inr x, v => Value.isStrOf x v
def keyH (w : World) : Key → Int
  | .inl k => hashInt k
  | .inr x => hashStr w x
theorem keyIs_shape : ∀ {k : Key} {v : Value}, keyIs k v = true → (∃ i t, k = Sum.inl i ∧ v = Value.int i t) ∨ (∃ x t, k = Sum.inr x ∧ v = Value.str x t)
  | .inl i, v, h => by
    obtain ⟨t, e⟩ := Value.isInt_shape (k := i) (v := v) h
    exact .inl ⟨i, t, rfl, e⟩
  | .inr x, v, h => by
    obtain ⟨t, e⟩ := Value.isStrOf_shape (x := x) (v := v) h
    exact .inr ⟨x, t, rfl, e⟩
theorem keyIs_int (i : Int) (t : Tok) : keyIs (.inl i) (.int i t) = true := by simp [keyIs, Value.isInt]
theorem keyIs_str (x : Str) (t : Tok) : keyIs (.inr x) (.str x t) = true := by simp [keyIs, Value.isStrOf]
theorem key_ll (a b : Int) : decide ((Sum.inl a : Key) = Sum.inl b) = (a == b) := by
  by_cases e : a = b
  · subst e; simp
  · have h : ¬ (Sum.inl a : Key) = Sum.inl b := fun q => e (Sum.inl.inj q)
    rw [decide_eq_false h]
    exact (beq_eq_false_iff_ne.mpr e).symm
theorem key_rr (a b : Str) : decide ((Sum.inr a : Key) = Sum.inr b) = decide (a = b) := by
  by_cases e : a = b
  · subst e; simp
  · have h : ¬ (Sum.inr a : Key) = Sum.inr b := fun q => e (Sum.inr.inj q)
    rw [decide_eq_false h, decide_eq_false e]
theorem key_lr (a : Int) (b : Str) : decide ((Sum.inl a : Key) = Sum.inr b) = false := decide_eq_false (fun q => nomatch q)
theorem key_rl (a : Str) (b : Int) : decide ((Sum.inr a : Key) = Sum.inl b) = false := decide_eq_false (fun q => nomatch q)

def mixKind (prog : Program) (w : World) : PySem.KeyKind prog w Key where
  is := keyIs
  hash := keyH w
  inj := fun v a b ha hb => by
    rcases keyIs_shape ha with ⟨i, t, rfl, rfl⟩ | ⟨x, t, rfl, rfl⟩
    · rcases keyIs_shape hb with ⟨j, u, rfl, e⟩ | ⟨y, u, rfl, e⟩
      · injection e with e1 _; rw [e1]
      · exact nomatch e
    · rcases keyIs_shape hb with ⟨j, u, rfl, e⟩ | ⟨y, u, rfl, e⟩
      · exact nomatch e
      · injection e with e1 _; rw [e1]
  byValue := fun k v h => by
    rcases keyIs_shape h with ⟨i, t, rfl, rfl⟩ | ⟨x, t, rfl, rfl⟩ <;> rfl
  pyHash := fun hv h => by
    rcases keyIs_shape hv with ⟨i, t, rfl, rfl⟩ | ⟨x, t, rfl, rfl⟩
    · exact wpAny_pyHash_int h
    · exact wpAny_pyHash_str h
  eqBool := fun hu hv h => by
    rcases keyIs_shape hu with ⟨i, t, rfl, rfl⟩ | ⟨x, t, rfl, rfl⟩
    · rcases keyIs_shape hv with ⟨j, u, rfl, rfl⟩ | ⟨y, u, rfl, rfl⟩
      · rw [key_ll] at h; exact wpAny_eqBool_int h
      · rw [key_lr] at h; exact SeqAt.EqAt.int_str i t y u _ _ _ _ h
    · rcases keyIs_shape hv with ⟨j, u, rfl, rfl⟩ | ⟨y, u, rfl, rfl⟩
      · rw [key_rl] at h; exact SeqAt.EqAt.str_int x t j u _ _ _ _ h
      · rw [key_rr] at h; exact wpAny_eqBool_str h
  «strs» := fun k x t v h => by
    rcases keyIs_shape h with ⟨i, u, rfl, e⟩ | ⟨y, u, rfl, e⟩
    · exact nomatch e
    · injection e with e1 _
      subst e1
      cases v <;> rfl

theorem mixKind_int (prog : Program) (w : World) (i : Int) (t : Tok) : (mixKind prog w).is (.inl i) (.int i t) = true := keyIs_int i t
theorem mixKind_str (prog : Program) (w : World) (x : Str) (t : Tok) : (mixKind prog w).is (.inr x) (.str x t) = true := keyIs_str x t
end L2

namespace L2
open PySem PySem.Spec PyProof.Rows

/-- a value, without the heap -/
inductive V where
  | non | bl (b : Bool) | int (i : Int) | str (x : Str) | byt (b : Array UInt8) | flt (b : UInt64) | ref (a : Addr) | ty (n : String)
  deriving DecidableEq

def RelV : V → Value → Prop
  | .non, u => u = Value.none
  | .bl b, u => u = Value.bool b
  | .int i, u => ∃ t, u = Value.int i t
  | .str x, u => ∃ t, u = Value.str x t
  | .byt b, u => ∃ t, u = Value.bytes b t
  | .flt b, u => ∃ t, u = Value.float b t
  | .ref a, u => u = Value.ref a
  | .ty n, u => u = Value.type n

abbrev Vals : List V → List Value → Prop := Paired RelV
theorem Vals.length {xs : List V} {us : List Value} (r : Vals xs us) : xs.length = us.length := Paired.length r
theorem Vals.get : ∀ {xs : List V} {us : List Value} {i : Nat} {x : V}, Vals xs us → xs[i]? = some x → ∃ u, us[i]? = some u ∧ RelV x u
  | _, _, _, _, .nil, e => by simp at e
  | _, _, 0, _, .cons r _, e => by simp at e; subst e; exact ⟨_, rfl, r⟩
  | _, _, i + 1, x, .cons _ t, e => by
    obtain ⟨u, h1, h2⟩ := Vals.get (i := i) (x := x) t (by simpa using e)
    exact ⟨u, by simpa using h1, h2⟩
theorem Vals.set {x : V} {u : Value} (r : RelV x u) : ∀ {xs : List V} {us : List Value} (i : Nat), Vals xs us → Vals (xs.set i x) (us.set i u)
  | _, _, _, .nil => .nil
  | _, _, 0, .cons _ t => .cons r t
  | _, _, i + 1, .cons q t => .cons q (Vals.set r i t)
theorem Vals.append : ∀ {xs ys : List V} {us ws : List Value}, Vals xs us → Vals ys ws → Vals (xs ++ ys) (us ++ ws)
  | _, _, _, _, .nil, s => s
  | _, _, _, _, .cons r t, s => .cons r (Vals.append t s)
theorem Vals.take : ∀ {xs : List V} {us : List Value} (n : Nat), Vals xs us → Vals (xs.take n) (us.take n)
  | _, _, 0, _ => .nil
  | _, _, _ + 1, .nil => .nil
  | _, _, n + 1, .cons r t => .cons r (Vals.take n t)
theorem Vals.drop : ∀ {xs : List V} {us : List Value} (n : Nat), Vals xs us → Vals (xs.drop n) (us.drop n)
  | _, _, 0, r => r
  | _, _, _ + 1, .nil => .nil
  | _, _, n + 1, .cons _ t => Vals.drop n t

def RelO : Option V → Option Value → Prop
  | some v, some u => RelV v u
  | none, none => True
  | _, _ => False
def KV {κ : Type} : List (κ × V) → List (κ × Value) → Prop := Paired fun (p : κ × V) (q : κ × Value) => p.1 = q.1 ∧ RelV p.2 q.2

/-- a key of a dict (00_mix): an int or a text -/
def kV : Key → V
  | .inl i => .int i
  | .inr x => .str x

/-- what stands at a tracked address -/
inductive HO where
  /-- a list -/
  | lst (xs : List V)
  /-- a tuple (never changes) -/
  | tup (xs : List V)
  /-- a dict whose keys are ints and texts; one whose keys are tuples of ints and texts (the empty one is both) -/
  | dK (kvs : List (Key × V)) | dT (kvs : List (List Key × V))
  /-- a set of ints: its members, its size -/
  | set (S : Int → Bool) (n : Nat)
  /-- an instance of the class at C, its dict at dx, its attributes -/
  | ins (C dx : Addr) (fs : List (Str × V))
  /-- the dict of the instance at x -/
  | own (x : Addr)
  /-- the dict of an exception -/
  | xd (fs : List (Str × V))
  /-- a bound method, f of x -/
  | met (f x : Addr)
  /-- a range object lo, lo + 1, .. below hi -/
  | rng (lo hi : Int)
  /-- a thing that is known to the object (the script; a dict while a loop walks it): read, never written while it is so -/
  | frz (o : Obj) (u : HO)
  /-- a code object's table -/
  | tbl (ps : Array Value)
  /-- any other thing, by what is true of its one object (a def of one's own: SetO a S n := HO.ext fun h => ..) -/
  | ext (φ : Heap → Prop)

abbrev Hp := Addr → Option HO
def upd (H : Hp) (a : Addr) (o : HO) : Hp := fun b => if b = a then some o else H b
theorem upd_same {H : Hp} {a : Addr} {o : HO} : upd H a o a = some o := by unfold upd; rw [if_pos rfl]
theorem upd_ne {H : Hp} {a b : Addr} {o : HO} (h : b ≠ a) : upd H a o b = H b := by unfold upd; rw [if_neg h]
/-- two objects of different content stand apart -/
theorem ne_of {H : Hp} {a b : Addr} {o u : HO} (h : H a = some o) (h' : H b = some u) (d : o ≠ u) : a ≠ b := by
  intro e; subst e; rw [h] at h'; exact d (Option.some.inj h')
theorem ne_of_none {H : Hp} {a b : Addr} {o : HO} (h : H a = some o) (h' : H b = none) : a ≠ b := by
  intro e; subst e; rw [h] at h'; cases h'

section
variable (P : Program) (w : World)
def ObjOk (H : Hp) (h : Heap) (a : Addr) : HO → Prop
  | .lst xs => xs.length ≤ sizeLine ∧ ∃ (its : List Value) (n : Nat), Vals xs its ∧ h.get? a = some { cls := .type "list", data := .seq its.toArray n }
  | .tup xs => xs.length ≤ sizeLine ∧ ∃ its : List Value, Vals xs its ∧ IsTup h a its.toArray
  | .dK kvs => kvs.length ≤ sizeLine ∧ (a == sysModules) = false ∧ ∃ vs, KV kvs vs ∧ h.DictOf (mixKind P w) a vs
  | .dT kvs => kvs.length ≤ sizeLine ∧ (a == sysModules) = false ∧ ∃ xs : List (List Key × Addr × Value),
      Paired (fun (p : List Key × V) (q : List Key × Addr × Value) => p.1 = q.1 ∧ H q.2.1 = some (.tup (p.1.map kV)) ∧ RelV p.2 q.2.2) kvs xs ∧
      ∃ o es ep, h.get? a = some o ∧ o.ExactDict ∧ o.data = .dict es ep ∧ es.toList = xs.map (entryOfKey (tupleKind (mixKind P w))) ∧ (xs.map (·.1)).Nodup
  | .set S n => h.SetOf (intKind P w) a S n
  | .ins C dx fs => H dx = some (.own a) ∧ fs.length ≤ 1000 ∧ dx ≠ a ∧ h.get? a = some (PySem.W.instObj C dx) ∧
      ∃ mA, h.Ns1 dx mA ∧ (∀ f, RelO (fs.lookup f) (mA f)) ∧ PySem.Within mA (fs.map (·.1))
  | .own _ => ∃ o, h.get? a = some o
  | .xd fs => ∃ mA, h.Ns1 a mA ∧ ∀ f, RelO (fs.lookup f) (mA f)
  | .rng lo hi => ∃ t u v, h.get? a = some { cls := .type "range", data := .fields #[.int lo t, .int hi u, .int 1 v] }
  | .frz o u => h.get? a = some o ∧ ObjOk H h a u
  | .tbl ps => h.get? a = some { cls := .none, data := .fields ps }
  | .met f x => h.get? a = some (PySem.W.methodObj (.ref f) (.ref x))
  | .ext φ => φ h ∧ (∃ o, h.get? a = some o) ∧ ∀ h1 h2 : Heap, φ h1 → (∀ o, h1.get? a = some o → h2.get? a = some o) → φ h2
/-- the abstract heap is held -/
def HOk (H : Hp) (h : Heap) : Prop := ∀ a o, H a = some o → ObjOk P w H h a o
end

section
variable {P : Program} {w : World} {H H' : Hp} {h h' : Heap} {a : Addr} {o : HO}
theorem ObjOk.lt (x : ObjOk P w H h a o) : a < h.objs.size := by
  cases o with
  | lst xs => obtain ⟨_, _, _, _, e⟩ := x; exact Heap.lt_size e
  | tup xs => obtain ⟨_, _, _, p⟩ := x; exact p.lt
  | dK kvs => obtain ⟨_, _, _, _, o, _, _, e, _⟩ := x; exact Heap.lt_size e
  | dT kvs => obtain ⟨_, _, _, _, o, _, _, e, _⟩ := x; exact Heap.lt_size e
  | set S n => obtain ⟨o, _, _, _, e, _⟩ := x; exact Heap.lt_size e
  | ins C dx fs => obtain ⟨_, _, _, e, _⟩ := x; exact Heap.lt_size e
  | own y => obtain ⟨_, e⟩ := x; exact Heap.lt_size e
  | xd fs => obtain ⟨_, ⟨_, _, _, e, _⟩, _⟩ := x; exact Heap.lt_size e
  | rng lo hi => obtain ⟨_, _, _, e⟩ := x; exact Heap.lt_size e
  | frz ob u => obtain ⟨e, _⟩ := x; exact Heap.lt_size e
  | tbl ps => exact Heap.lt_size (show h.get? a = some _ from x)
  | met f y => exact Heap.lt_size (show h.get? a = some _ from x)
  | ext φ => obtain ⟨_, ⟨_, e⟩, _⟩ := x; exact Heap.lt_size e
theorem Paired.mapP {α β : Type} {F G : α → β → Prop} : ∀ {l₁ : List α} {l₂ : List β}, Paired F l₁ l₂ → (∀ a b, F a b → G a b) → Paired G l₁ l₂
  | _, _, .nil, _ => .nil
  | _, _, .cons r t, f => .cons (f _ _ r) (Paired.mapP t f)
/-- what an object's description leans on: its own object, its own dict, the tuples -/
theorem ObjOk.stay (x : ObjOk P w H h a o) (k : ∀ b u, (b = a ∨ H b = some (.own a)) → h.get? b = some u → h'.get? b = some u)
    (ho : ∀ b, H b = some (.own a) → H' b = some (.own a)) (ht : ∀ b xs, H b = some (.tup xs) → H' b = some (.tup xs)) : ObjOk P w H' h' a o := by
  induction o with
  | lst xs => obtain ⟨z, its, n, r, e⟩ := x; exact ⟨z, its, n, r, k _ _ (.inl rfl) e⟩
  | tup xs => obtain ⟨z, its, r, ob, e, c⟩ := x; exact ⟨z, its, r, ob, k _ _ (.inl rfl) e, c⟩
  | dK kvs => obtain ⟨z, y, vs, r, ob, es, ep, e, c⟩ := x; exact ⟨z, y, vs, r, ob, es, ep, k _ _ (.inl rfl) e, c⟩
  | dT kvs =>
    obtain ⟨z, y, xs, r, ob, es, ep, e, c⟩ := x
    exact ⟨z, y, xs, Paired.mapP r fun p q z => ⟨z.1, ht _ _ z.2.1, z.2.2⟩, ob, es, ep, k _ _ (.inl rfl) e, c⟩
  | set S n => obtain ⟨ob, es, ep, t, e, c⟩ := x; exact ⟨ob, es, ep, t, k _ _ (.inl rfl) e, c⟩
  | ins C dx fs =>
    obtain ⟨d, z, ne, e, mA, ⟨od, es, ep, e2, c⟩, r⟩ := x
    exact ⟨ho _ d, z, ne, k _ _ (.inl rfl) e, mA, ⟨od, es, ep, k _ _ (.inr d) e2, c⟩, r⟩
  | own y => obtain ⟨ob, e⟩ := x; exact ⟨ob, k _ _ (.inl rfl) e⟩
  | xd fs => obtain ⟨mA, ⟨od, es, ep, e, c⟩, r⟩ := x; exact ⟨mA, ⟨od, es, ep, k _ _ (.inl rfl) e, c⟩, r⟩
  | rng lo hi => obtain ⟨t, u, v, e⟩ := x; exact ⟨t, u, v, k _ _ (.inl rfl) e⟩
  | frz ob u ih => obtain ⟨e, q⟩ := x; exact ⟨k _ _ (.inl rfl) e, ih q⟩
  | tbl ps =>
    have e : h.get? a = some { cls := .none, data := .fields ps } := x
    show h'.get? a = some { cls := .none, data := .fields ps }
    exact k a _ (.inl rfl) e
  | met f y =>
    have e : h.get? a = some (PySem.W.methodObj (.ref f) (.ref y)) := x
    show h'.get? a = some (PySem.W.methodObj (.ref f) (.ref y))
    exact k a _ (.inl rfl) e
  | ext φ => obtain ⟨p, ⟨o, e⟩, st⟩ := x; exact ⟨st _ _ p fun o q => k _ _ (.inl rfl) q, ⟨o, k _ _ (.inl rfl) e⟩, st⟩
theorem HOk.lt (x : HOk P w H h) (e : H a = some o) : a < h.objs.size := (x a o e).lt
theorem HOk.fresh (x : HOk P w H h) (e : h.objs.size ≤ a) : H a = none := by
  cases q : H a with
  | none => rfl
  | some u => exact absurd (Nat.lt_of_lt_of_le (x.lt q) e) (Nat.lt_irrefl _)
/-- every object of the heap is kept -/
theorem HOk.kept (x : HOk P w H h) (k : ∀ b u, h.get? b = some u → h'.get? b = some u) : HOk P w H h' := fun a o e =>
  (x a o e).stay (fun b u _ q => k b u q) (fun _ q => q) fun _ _ q => q
/-- a new object is laid and tracked -/
theorem HOk.laid (x : HOk P w H h) (k : ∀ b u, h.get? b = some u → h'.get? b = some u) (hp : h.objs.size ≤ a) (new : ObjOk P w (upd H a o) h' a o) : HOk P w (upd H a o) h' := fun b u e => by
  have hn := x.fresh hp
  by_cases hb : b = a
  · subst hb; rw [upd_same] at e; cases e; exact new
  · rw [upd_ne hb] at e
    exact (x b u e).stay (fun c v _ q => k c v q) (fun c q => by rw [upd_ne (ne_of_none q hn)]; exact q) fun c xs q => by rw [upd_ne (ne_of_none q hn)]; exact q
end

/-- what may be read as u: it is u, or a known u -/
def Rd (H : Hp) (a : Addr) (u : HO) : Prop := H a = some u ∨ ∃ o, H a = some (.frz o u)
theorem Rd.ok {P : Program} {w : World} {H : Hp} {h : Heap} {a : Addr} {u : HO} (r : Rd H a u) (x : HOk P w H h) : ObjOk P w H h a u := by
  rcases r with r | ⟨o, r⟩
  · exact x a u r
  · obtain ⟨_, q⟩ := x a _ r
    exact q
/-- what may be written -/
def Mut : Option HO → Prop
  | some (.lst _) => True
  | some (.dK _) => True
  | some (.dT _) => True
  | some (.set _ _) => True
  | some (.ins _ _ _) => True
  | some (.ext _) => True
  | _ => False
section
variable {P : Program} {w : World} {H : Hp} {h h' : Heap} {x e : Addr} {o' : HO}
/-- the object at e is changed: x itself, or the dict of the instance x -/
theorem HOk.write (ok : HOk P w H h) (mu : Mut (H x)) (he : e = x ∨ H e = some (.own x)) (k : ∀ b u, b ≠ e → h.get? b = some u → h'.get? b = some u) (heo : ∃ u, h'.get? e = some u)
    (new : ObjOk P w (upd H x o') h' x o') : HOk P w (upd H x o') h' := fun b u q => by
  have nown : ∀ c y, H c = some (.own y) → c ≠ x := fun c y r z => by subst z; rw [r] at mu; exact mu
  have ntup : ∀ c xs, H c = some (.tup xs) → c ≠ x := fun c xs r z => by subst z; rw [r] at mu; exact mu
  by_cases hb : b = x
  · subst hb; rw [upd_same] at q; cases q; exact new
  · rw [upd_ne hb] at q
    by_cases hbe : b = e
    · have q' : H b = some (.own x) := by
        rcases he with z | z
        · exact absurd (hbe.trans z) hb
        · rw [hbe]; exact z
      rw [q] at q'; cases q'
      obtain ⟨v, hv⟩ := heo
      exact ⟨v, by rw [hbe]; exact hv⟩
    · refine (ok b u q).stay (fun c v hc r => k c v ?_ r) (fun c r => by rw [upd_ne (nown c b r)]; exact r) fun c xs r => by rw [upd_ne (ntup c xs r)]; exact r
      rcases hc with rfl | hc
      · exact hbe
      · rintro rfl
        rcases he with z | z
        · exact nown c b hc z
        · rw [hc] at z; cases z; exact hb rfl
end

/-! ### kept unless tracked; of the frames at fs (the callers') the slots may change (an exception that passes writes there); of the records at ex (iterators) nothing is said -/
structure Un (fs ex : List Addr) (H H' : Hp) (h h' : Heap) : Prop where
  keep : ∀ b o, h.get? b = some o → H b = none → b ∉ fs → b ∉ ex → h'.get? b = some o
  slot : ∀ b o, h.get? b = some o → H b = none → b ∈ fs → b ∉ ex → ∃ sl, h'.get? b = some { o with slots := sl }
  free : ∀ b o, h.get? b = some o → H b = none → b ∉ ex → H' b = none
  there : ∀ b o, h.get? b = some o → b ∉ ex → ∃ o', h'.get? b = some o'
  tups : ∀ b xs, H b = some (.tup xs) → H' b = some (.tup xs)
  frzs : ∀ b o u, H b = some (.frz o u) → H' b = some (.frz o u)
  tbls : ∀ b ps, H b = some (.tbl ps) → ∃ more, H' b = some (.tbl (ps ++ more))
section
variable {fs fs' ex ex' : List Addr} {H H1 H2 : Hp} {h h1 h2 h' : Heap} {a x e : Addr} {o : HO}
theorem Un.any (u : Un fs ex H H1 h h1) {b : Addr} {ob : Obj} (q : h.get? b = some ob) (n : H b = none) (hx : b ∉ ex) : ∃ sl, h1.get? b = some { ob with slots := sl } := by
  by_cases hb : b ∈ fs
  · exact u.slot b ob q n hb hx
  · exact ⟨ob.slots, u.keep b ob q n hb hx⟩
theorem Un.kept (k : ∀ b u, h.get? b = some u → h'.get? b = some u) : Un fs ex H H h h' :=
  ⟨fun b ob q _ _ _ => k b ob q, fun b ob q _ _ _ => ⟨ob.slots, k b ob q⟩, fun _ _ _ n _ => n, fun b ob q _ => ⟨ob, k b ob q⟩, fun _ _ q => q, fun _ _ _ q => q, fun _ ps q => ⟨#[], by rw [q]; simp⟩⟩
theorem Un.refl : Un fs ex H H h h := Un.kept fun _ _ q => q
theorem Un.laid (k : ∀ b u, h.get? b = some u → h'.get? b = some u) (hp : h.objs.size ≤ a) (hn : H a = none) : Un fs ex H (upd H a o) h h' where
  keep := fun b u q _ _ _ => k b u q
  slot := fun b u q _ _ _ => ⟨u.slots, k b u q⟩
  free := fun b u q n _ => by rw [upd_ne (Nat.ne_of_lt (Nat.lt_of_lt_of_le (Heap.lt_size q) hp))]; exact n
  there := fun b u q _ => ⟨u, k b u q⟩
  tups := fun b xs q => by rw [upd_ne (ne_of_none q hn)]; exact q
  frzs := fun b u xs q => by rw [upd_ne (ne_of_none q hn)]; exact q
  tbls := fun b ps q => ⟨#[], by rw [upd_ne (ne_of_none q hn), q]; simp⟩
theorem Un.write (mu : Mut (H x)) (he : e = x ∨ H e = some (.own x)) (k : ∀ b u, b ≠ e → h.get? b = some u → h'.get? b = some u) (heo : ∃ u, h'.get? e = some u) : Un fs ex H (upd H x o) h h' := by
  have hx : ∀ b, H b = none → b ≠ x := fun b n z => by subst z; rw [n] at mu; exact mu
  have hb : ∀ b, H b = none → b ≠ e := fun b n z => by
    subst z
    rcases he with r | r
    · exact hx b n r
    · rw [n] at r; cases r
  have hm : ∀ b u, H b = some u → ¬ Mut (some u) → b ≠ x := fun b u q nm z => by subst z; rw [q] at mu; exact nm mu
  refine ⟨fun b u q n _ _ => k b u (hb b n) q, fun b u q n _ _ => ⟨u.slots, k b u (hb b n) q⟩, fun b u q n _ => by rw [upd_ne (hx b n)]; exact n, fun b u q _ => ?_,
    fun b xs q => by rw [upd_ne (hm b _ q fun z => z)]; exact q, fun b u xs q => by rw [upd_ne (hm b _ q fun z => z)]; exact q, fun b ps q => ⟨#[], by rw [upd_ne (hm b _ q fun z => z), q]; simp⟩⟩
  by_cases hbe : b = e
  · subst hbe; exact heo
  · exact ⟨u, k b u hbe q⟩
end

/-! ### the heap without what is tracked -/
def trk (h : Heap) (H : Hp) : List Addr := (List.range h.objs.size).filter fun a => (H a).isSome
def hidT (h : Heap) (H : Hp) : Heap := PySem.W.hideAll h (trk h H)
theorem hidT_size (h : Heap) (H : Hp) : (hidT h H).objs.size = h.objs.size := PySem.W.hideAll_size _ _
theorem hidT_get {h : Heap} {H : Hp} {b : Addr} {o : Obj} (e : h.get? b = some o) (n : H b = none) : (hidT h H).get? b = some o :=
  PySem.W.hideAll_get _ e fun hm => by
    have q : (H b).isSome = true := (List.mem_filter.mp hm).2
    rw [n] at q; simp at q
theorem of_hidT {h : Heap} {H : Hp} {b : Addr} {o : Obj} (e : (hidT h H).get? b = some o) : h.get? b = some o ∧ H b = none := by
  have e' : h.get? b = some o := PySem.W.of_hideAll (trk h H) e
  refine ⟨e', ?_⟩
  cases q : H b with
  | none => rfl
  | some x =>
    have hm : b ∈ trk h H := List.mem_filter.mpr ⟨List.mem_range.mpr (Heap.lt_size e'), by simp [q]⟩
    have z : (hidT h H).get? b = none := PySem.W.hideAll_none (trk h H) hm
    rw [z] at e; cases e

/-! ### OpenK's ledger, filled with every new object but one -/
end L2

namespace L2
open PySem PySem.Spec PyProof.Rows

/-- the module's facts, over the base: the heap at the law's entry without what is tracked there -/
structure Mod (K : PySem.W.Frag) (mg : Str → Option Value) (base : Heap) : Prop where
  kin : K.In base
  glob : base.Ns mainGlobals mg
  blt : ∃ mb, base.Ns builtinsNs mb ∧ ∀ x : Str, x ≠ "__name__" → mb x = bootBuiltins x
  nolimit : base.NoLimit

/-- the context: a def's body (or a comprehension's block) running. base: fixed through the whole law; s₀, H₀: the entry; outer: the frames whose slots others may change (a def's callers); stack: all frames that run;
   ex: iterators that were made ahead of the entry and are walked here (a comprehension's); fn: the names whose cells were made at the entry (a def: all; a comprehension's block: its own); calm: not within an except suite; pn: pins that every state bears; xe: what is wanted of an exception that leaves the code -/
structure Cx where
  prog : Program
  w : World
  K : PySem.W.Frag
  mg : Str → Option Value
  base : Heap
  A : Around
  N : List Str
  s₀ : Shared
  H₀ : Hp
  env : Env
  outer : List Env
  stack : List Env
  ex : List Addr
  fn : Str → Bool
  calm : Bool
  pn : List (Addr × Obj)
  xe : Value → Shared → Prop
/-- the callers' frames -/
def frs (l : List Env) : List Addr := l.filterMap (·.frame)
abbrev Cx.fs (X : Cx) : List Addr := frs X.outer

def Vis (sc : Scope) (x : Str) : Prop := sc.names.lookup x = some .local ∨ sc.names.lookup x = some .cell ∨ sc.names.lookup x = some .free
def Loc (sc : Scope) (x : Str) : Prop := sc.names.lookup x = some .local ∨ sc.names.lookup x = some .cell
def Look (env : Env) (h : Heap) (m : Str → Option Value) (x : Str) (u : Value) : Prop :=
  (env.kindOf x = some .local ∧ m x = some u) ∨ ((env.kindOf x = some .cell ∨ env.kindOf x = some .free) ∧ ∃ c, env.cells.lookup x = some c ∧ h.IsCell c (some u))

structure Cx.Ok (X : Cx) : Prop where
  mod : Mod X.K X.mg X.base
  kind : X.env.scope.kind = .function
  glob : X.env.globals = mainGlobals
  blt : X.env.builtins = builtinsNs
  above : X.s₀.heap.objs.size ≤ X.env.locals
  inj : ∀ x y c, X.env.cells.lookup x = some c → X.env.cells.lookup y = some c → x = y
  has : ∀ x, (X.env.kindOf x = some .cell ∨ X.env.kindOf x = some .free) → ∃ c, X.env.cells.lookup x = some c
  cab : ∀ x c, X.fn x = true → X.env.cells.lookup x = some c → X.s₀.heap.objs.size ≤ c
  hd : X.calm = true → X.A.handled = none
  frames : X.A.frames = some X.stack
  stk : X.stack = X.outer ∨ (X.stack = X.env :: X.outer ∧ X.env.frame = some X.env.locals)
  exf : ∀ b ∈ X.ex, b ≠ X.env.locals ∧ ∀ x c, X.env.cells.lookup x = some c → c ≠ b
  bs : ∀ b o, X.base.get? b = some o → X.s₀.heap.get? b = some o ∧ X.H₀ b = none
  bsz : X.base.objs.size ≤ X.s₀.heap.objs.size
  noex : ∀ b o, X.base.get? b = some o → b ∉ X.ex
  exfs : ∀ b ∈ X.ex, b ∉ X.fs
  funs : X.s₀.heap.FunFrames X.base X.outer
  frf : ∀ b ∈ X.fs, X.H₀ b = none

structure Inv (X : Cx) (pins : List (Addr × Obj)) (σ : List (Option V)) (H : Hp) (s : Shared) : Prop where
  ok : X.Ok
  os : s.os = X.s₀.os
  bare : AllBare s.gens
  base : Un X.fs X.ex X.H₀ H X.s₀.heap s.heap
  loc : ∃ m, s.heap.Ns X.env.locals m ∧ ∀ (i : Nat) (x : Str) (v : V), X.N[i]? = some x → σ[i]? = some (some v) → Vis X.env.scope x → ∃ u, RelV v u ∧ Look X.env s.heap m x u
  cell : ∀ x c, X.env.cells.lookup x = some c → ∃ v, s.heap.IsCell c v
  free : H X.env.locals = none
  freeC : ∀ x c, X.env.cells.lookup x = some c → H c = none
  pin : ∀ p ∈ X.pn ++ pins, s.heap.get? p.1 = some p.2 ∧ H p.1 = none ∧ p.1 ≠ X.env.locals ∧ p.1 ∉ X.fs ∧ ∀ v, p.2.data ≠ .cell v
  hok : HOk X.prog X.w H s.heap
  len : σ.length = X.N.length

section
variable {X : Cx} {pins : List (Addr × Obj)} {σ : List (Option V)} {H H' : Hp} {s : Shared} {h' : Heap}

theorem Cx.Ok.nofr (ok : X.Ok) {b : Addr} {o : Obj} (e : X.base.get? b = some o) : b ∉ X.fs := fun hb => by
  have := (ok.funs.mem hb).1
  rw [e] at this; cases this
theorem Inv.bs (I : Inv X pins σ H s) : ∀ b o, X.base.get? b = some o → s.heap.get? b = some o ∧ H b = none := fun b o e =>
  ⟨I.base.keep b o (I.ok.bs b o e).1 (I.ok.bs b o e).2 (I.ok.nofr e) (I.ok.noex b o e), I.base.free b o (I.ok.bs b o e).1 (I.ok.bs b o e).2 (I.ok.noex b o e)⟩
theorem Inv.bk (I : Inv X pins σ H s) : ∀ b o, X.base.get? b = some o → s.heap.get? b = some o := fun b o e => (I.bs b o e).1
theorem Inv.mod (I : Inv X pins σ H s) : Mod X.K X.mg X.base := I.ok.mod
theorem Inv.kIn (I : Inv X pins σ H s) : X.K.In s.heap := I.ok.mod.kin.keeps I.bk
theorem Inv.lt (I : Inv X pins σ H s) : X.env.locals < s.heap.objs.size := let ⟨_, hn, _⟩ := I.loc; hn.lt
theorem Inv.sz (I : Inv X pins σ H s) : X.s₀.heap.objs.size ≤ s.heap.objs.size := Nat.le_trans I.ok.above (Nat.le_of_lt I.lt)
theorem Inv.nofs (I : Inv X pins σ H s) {a : Addr} (h : s.heap.objs.size ≤ a) : a ∉ X.fs := fun hb => by
  obtain ⟨_, o, ho, _⟩ := I.ok.funs.mem hb
  exact absurd (Nat.lt_of_lt_of_le (Heap.lt_size ho) (Nat.le_trans I.sz h)) (Nat.lt_irrefl _)
theorem Inv.cne (I : Inv X pins σ H s) : ∀ x c, X.env.cells.lookup x = some c → c ≠ X.env.locals := fun x c e z => by
  obtain ⟨v, o, ho, hd⟩ := I.cell x c e
  obtain ⟨m, ⟨o', es, ep, ho', hd', _⟩, _⟩ := I.loc
  rw [z, ho'] at ho; cases ho; rw [hd'] at hd; cases hd
theorem Inv.funs (I : Inv X pins σ H s) : s.heap.FunFrames X.base X.outer := by
  have all : ∀ (l : List Env), (∀ b ∈ frs l, b ∈ X.fs) → X.s₀.heap.FunFrames X.base l → s.heap.FunFrames X.base l := by
    intro l
    induction l with
    | nil => intro _ _; trivial
    | cons env r ih =>
      intro hs hl
      obtain ⟨hk, ⟨L, o, hf, hn, ho, hd⟩, hr⟩ := hl
      have hL : L ∈ X.fs := hs L (by unfold frs; rw [List.filterMap_cons, hf]; exact List.mem_cons_self)
      obtain ⟨sl, e⟩ := I.base.slot L o ho (I.ok.frf L hL) hL fun z => I.ok.exfs L z hL
      exact ⟨hk, ⟨L, _, hf, hn, e, hd⟩, ih (fun b hb => hs b (by unfold frs; rw [List.filterMap_cons, hf]; exact List.mem_cons_of_mem _ hb)) hr⟩
  exact all X.outer (fun _ hb => hb) I.ok.funs

/-- the frames that run, for a call -/
theorem Inv.stack (I : Inv X pins σ H s) : s.heap.FunFrames X.base X.stack := by
  rcases I.ok.stk with e | ⟨e, hf⟩
  · rw [e]; exact I.funs
  · rw [e]
    obtain ⟨m, hn, _⟩ := I.loc
    refine .cons (by rw [I.ok.kind]; decide) hf hn ?_ I.funs
    exact Heap.get?_none_of_le (Nat.le_trans I.ok.bsz I.ok.above)
theorem Inv.stkSub (I : Inv X pins σ H s) : ∀ b ∈ frs X.stack, b ∈ X.env.locals :: X.fs := fun b hb => by
  rcases I.ok.stk with e | ⟨e, hf⟩
  · rw [e] at hb; exact List.mem_cons_of_mem _ hb
  · rw [e] at hb
    unfold frs at hb
    rw [List.filterMap_cons, hf] at hb
    exact hb
theorem Inv.stkFree (I : Inv X pins σ H s) : ∀ b ∈ frs X.stack, H b = none := fun b hb => by
  rcases List.mem_cons.mp (I.stkSub b hb) with e | hb
  · rw [e]; exact I.free
  · obtain ⟨_, o, ho, _⟩ := I.ok.funs.mem hb
    exact I.base.free b o ho (I.ok.frf b hb) fun z => I.ok.exfs b z hb

/-- THE STEP: the untracked objects but the frame and the records at ch are kept (the callers' frames up to slots), the frame's map is kept, the new abstract heap is held -/
theorem Inv.step {g' : Array GenState} {t' : Nat} {d' : Drawn} {ch : List Addr} (I : Inv X pins σ H s)
    (hch : ∀ b ∈ ch, (b ∈ X.ex ∨ X.s₀.heap.objs.size ≤ b) ∧ b ≠ X.env.locals ∧ (∀ x c, X.env.cells.lookup x = some c → c ≠ b) ∧ ∀ p ∈ X.pn ++ pins, p.1 ≠ b)
    (keep : ∀ b o, b ≠ X.env.locals → b ∉ X.fs → b ∉ ch → s.heap.get? b = some o → H b = none → h'.get? b = some o)
    (slot : ∀ b o, b ≠ X.env.locals → b ∈ X.fs → b ∉ ch → s.heap.get? b = some o → H b = none → ∃ sl, h'.get? b = some { o with slots := sl }) (free : ∀ b o, b ∉ ch → s.heap.get? b = some o → H b = none → H' b = none)
    (there : ∀ b o, b ∉ ch → s.heap.get? b = some o → ∃ o', h'.get? b = some o')
    (tups : ∀ b xs, H b = some (.tup xs) → H' b = some (.tup xs)) (frzs : ∀ b o u, H b = some (.frz o u) → H' b = some (.frz o u)) (tbls : ∀ b ps, H b = some (.tbl ps) → ∃ more, H' b = some (.tbl (ps ++ more)))
    (ns : ∀ m, s.heap.Ns X.env.locals m → h'.Ns X.env.locals m) (hok : HOk X.prog X.w H' h') (hg : AllBare g') :
    Inv X pins σ H' { s with heap := h', gens := g', drawn := d', toks := t' } := by
  have neL : ∀ b o, X.s₀.heap.get? b = some o → b ≠ X.env.locals := fun b o e => Nat.ne_of_lt (Nat.lt_of_lt_of_le (Heap.lt_size e) I.ok.above)
  have neC : ∀ b o, X.s₀.heap.get? b = some o → b ∉ X.ex → b ∉ ch := fun b o e hx hb => by
    rcases (hch b hb).1 with z | z
    · exact hx z
    · exact absurd (Nat.lt_of_lt_of_le (Heap.lt_size e) z) (Nat.lt_irrefl _)
  have cellK : ∀ x c, X.env.cells.lookup x = some c → ∀ v, s.heap.IsCell c v → h'.IsCell c v := fun x c e v ⟨o, ho, hd⟩ => by
    have nch : c ∉ ch := fun z => (hch c z).2.2.1 x c e rfl
    by_cases hc : c ∈ X.fs
    · obtain ⟨sl, q⟩ := slot c o (I.cne x c e) hc nch ho (I.freeC x c e)
      exact ⟨_, q, hd⟩
    · exact ⟨o, keep c o (I.cne x c e) hc nch ho (I.freeC x c e), hd⟩
  refine ⟨I.ok, I.os, hg, ⟨fun b o e n hb hx => ?_, fun b o e n hb hx => ?_, fun b o e n hx => ?_, fun b o e hx => ?_, fun b xs e => tups b xs (I.base.tups b xs e), fun b o xs e => frzs b o xs (I.base.frzs b o xs e), fun b ps e => ?_⟩, ?_, fun x c e => ?_, ?_, fun x c e => ?_, fun p hp => ?_, hok, I.len⟩
  · exact keep b o (neL b o e) hb (neC b o e hx) (I.base.keep b o e n hb hx) (I.base.free b o e n hx)
  · obtain ⟨sl, e1⟩ := I.base.slot b o e n hb hx
    obtain ⟨sl', e2⟩ := slot b _ (neL b o e) hb (neC b o e hx) e1 (I.base.free b o e n hx)
    exact ⟨sl', e2⟩
  · obtain ⟨o', e1⟩ := I.base.there b o e hx
    exact free b o' (neC b o e hx) e1 (I.base.free b o e n hx)
  · obtain ⟨o', e1⟩ := I.base.there b o e hx
    exact there b o' (neC b o e hx) e1
  · obtain ⟨m1, e1⟩ := I.base.tbls b ps e
    obtain ⟨m2, e2⟩ := tbls b _ e1
    exact ⟨m1 ++ m2, by rw [e2, Array.append_assoc]⟩
  · obtain ⟨m, hn, hl⟩ := I.loc
    refine ⟨m, ns m hn, fun i x v e1 e2 e3 => ?_⟩
    obtain ⟨u, r, l⟩ := hl i x v e1 e2 e3
    refine ⟨u, r, ?_⟩
    rcases l with l | ⟨k, c, e, z⟩
    · exact .inl l
    · exact .inr ⟨k, c, e, cellK x c e _ z⟩
  · obtain ⟨v, z⟩ := I.cell x c e
    exact ⟨v, cellK x c e v z⟩
  · obtain ⟨m, ⟨o, _, _, ho, _⟩, _⟩ := I.loc
    exact free _ o (fun z => (hch _ z).2.1 rfl) ho I.free
  · obtain ⟨v, o, ho, hd⟩ := I.cell x c e
    exact free c o (fun z => (hch c z).2.2.1 x c e rfl) ho (I.freeC x c e)
  · obtain ⟨e, n, ne, nf, d⟩ := I.pin p hp
    have nch : p.1 ∉ ch := fun z => (hch p.1 z).2.2.2 p hp rfl
    exact ⟨keep p.1 p.2 ne nf nch e n, free p.1 p.2 nch e n, ne, nf, d⟩
/-- .. where the frame's own object is kept too -/
theorem Inv.un {t' : Nat} (I : Inv X pins σ H s) (u : Un X.fs [] H H' s.heap h') (hok : HOk X.prog X.w H' h') : Inv X pins σ H' { s with heap := h', toks := t' } := by
  obtain ⟨m, ⟨o, es, ep, ho, r⟩, _⟩ := id I.loc
  obtain ⟨sl, hL⟩ := u.any ho I.free (by simp)
  exact I.step (g' := s.gens) (d' := s.drawn) (ch := []) (fun _ z => nomatch z) (fun b o _ hb _ e n => u.keep b o e n hb (by simp)) (fun b o _ hb _ e n => u.slot b o e n hb (by simp)) (fun b o _ e n => u.free b o e n (by simp)) (fun b o _ e => u.there b o e (by simp)) u.tups u.frzs u.tbls (fun m' hm => by
    obtain ⟨o', es', ep', ho', r'⟩ := hm
    rw [ho] at ho'; cases ho'
    exact ⟨_, es', ep', hL, r'⟩) hok I.bare
/-- behind a call (or a comprehension's block): the slots of this frame may have changed too, the records at ch may have turned -/
theorem Inv.call {g' : Array GenState} {t' : Nat} {d' : Drawn} {ch : List Addr} (I : Inv X pins σ H s) (u : Un (frs X.stack) ch H H' s.heap h') (hok : HOk X.prog X.w H' h') (hg : AllBare g')
    (hch : ∀ b ∈ ch, (b ∈ X.ex ∨ X.s₀.heap.objs.size ≤ b) ∧ b ≠ X.env.locals ∧ (∀ x c, X.env.cells.lookup x = some c → c ≠ b) ∧ ∀ p ∈ X.pn ++ pins, p.1 ≠ b) :
    Inv X pins σ H' { s with heap := h', gens := g', drawn := d', toks := t' } := by
  obtain ⟨m, ⟨o, es, ep, ho, r⟩, _⟩ := id I.loc
  obtain ⟨sl, hL⟩ := u.any ho I.free fun z => (hch _ z).2.1 rfl
  exact I.step (ch := ch) hch (fun b o hL hb hc e n => u.keep b o e n (fun z => (List.mem_cons.mp (I.stkSub b z)).elim hL hb) hc) (fun b o _ _ hc e n => u.any e n hc) (fun b o hc e n => u.free b o e n hc) (fun b o hc e => u.there b o e hc) u.tups u.frzs u.tbls (fun m' hm => by
    obtain ⟨o', es', ep', ho', r'⟩ := hm
    rw [ho] at ho'; cases ho'
    exact ⟨_, es', ep', hL, r'⟩) hok hg
/-- an untracked record of ours (an iterator) has turned -/
theorem Inv.turned {t' : Nat} {it : Addr} (I : Inv X pins σ H s) (k : ∀ b o, b ≠ it → s.heap.get? b = some o → h'.get? b = some o) (hn : H it = none) (hL : it ≠ X.env.locals)
    (h1 : it ∈ X.ex ∨ X.s₀.heap.objs.size ≤ it) (h2 : ∀ x c, X.env.cells.lookup x = some c → c ≠ it) (h3 : ∀ p ∈ X.pn ++ pins, p.1 ≠ it) : Inv X pins σ H { s with heap := h', toks := t' } := by
  have nit : ∀ b u, H b = some u → b ≠ it := fun b u e z => by rw [z, hn] at e; cases e
  refine I.step (g' := s.gens) (d' := s.drawn) (ch := [it]) (fun b hb => ?_) (fun b o _ _ hc e _ => k b o (fun z => hc (by simp [z])) e) (fun b o _ _ hc e _ => ⟨o.slots, k b o (fun z => hc (by simp [z])) e⟩) (fun _ _ _ _ n => n)
    (fun b o hc e => ⟨o, k b o (fun z => hc (by simp [z])) e⟩) (fun _ _ e => e) (fun _ _ _ e => e) (fun b ps e => ⟨#[], by rw [e]; simp⟩) (fun m hm => ?_) (fun b u e => ?_) I.bare
  · have e : b = it := by simpa using hb
    subst e
    exact ⟨h1, hL, h2, h3⟩
  · obtain ⟨o, es, ep, ho, r⟩ := hm
    exact ⟨o, es, ep, k _ o (Ne.symm hL) ho, r⟩
  · refine (I.hok b u e).stay (fun c v hc q => k c v ?_ q) (fun _ q => q) fun _ _ q => q
    rcases hc with z | z
    · rw [z]; exact nit b u e
    · exact nit c _ z
theorem Inv.tok (I : Inv X pins σ H s) (t : Nat) : Inv X pins σ H { s with toks := t } := I.un (h' := s.heap) (t' := t) Un.refl I.hok
/-- all objects kept -/
theorem Inv.kept {t' : Nat} (I : Inv X pins σ H s) (k : ∀ b u, s.heap.get? b = some u → h'.get? b = some u) : Inv X pins σ H { s with heap := h', toks := t' } := I.un (Un.kept k) (I.hok.kept k)
/-- a new object laid and tracked -/
theorem Inv.laid {a : Addr} {o : HO} {t' : Nat} (I : Inv X pins σ H s) (k : ∀ b u, s.heap.get? b = some u → h'.get? b = some u) (hp : s.heap.objs.size ≤ a) (new : ObjOk X.prog X.w (upd H a o) h' a o) :
    Inv X pins σ (upd H a o) { s with heap := h', toks := t' } := I.un (Un.laid k hp (I.hok.fresh hp)) (I.hok.laid k hp new)
/-- an object written -/
theorem Inv.write {x e : Addr} {o : HO} {t' : Nat} (I : Inv X pins σ H s) (mu : Mut (H x)) (he : e = x ∨ H e = some (.own x)) (k : ∀ b u, b ≠ e → s.heap.get? b = some u → h'.get? b = some u) (heo : ∃ u, h'.get? e = some u)
    (new : ObjOk X.prog X.w (upd H x o) h' x o) : Inv X pins σ (upd H x o) { s with heap := h', toks := t' } := I.un (Un.write mu he k heo) (I.hok.write mu he k heo new)
theorem Inv.pins_of {pins' : List (Addr × Obj)} (I : Inv X pins σ H s) (h : ∀ p ∈ pins', s.heap.get? p.1 = some p.2 ∧ H p.1 = none ∧ p.1 ≠ X.env.locals ∧ p.1 ∉ X.fs ∧ ∀ v, p.2.data ≠ .cell v) : Inv X pins' σ H s :=
  ⟨I.ok, I.os, I.bare, I.base, I.loc, I.cell, I.free, I.freeC, fun p hp => (List.mem_append.mp hp).elim (fun z => I.pin p (List.mem_append_left _ z)) (h p), I.hok, I.len⟩

theorem nodup_ix {N : List Str} (hN : N.Nodup) {i j : Nat} {x : Str} (a : N[i]? = some x) (b : N[j]? = some x) : i = j := by
  obtain ⟨h1, e1⟩ := List.getElem?_eq_some_iff.mp a
  obtain ⟨h2, e2⟩ := List.getElem?_eq_some_iff.mp b
  exact (List.getElem_inj hN).mp (e1.trans e2.symm)

/-- a name is stored; what changed -/
theorem store_ok2 {M : Model} {A : Around} {E : Value → Shared → Prop} {i : Nat} {x : Str} {v : V} {u : Value} {Q : Unit → Shared → Prop} (I : Inv X pins σ H s) (hN : X.N.Nodup) (hi : X.N[i]? = some x) (hx : Loc X.env.scope x) (r : RelV v u)
    (h : ∀ s', Inv X pins (σ.set i (some v)) H s' → (∃ a, Heap.SameBut a s.heap s'.heap ∧ (a = X.env.locals ∨ X.env.cells.lookup x = some a)) → Q () s') (hf : X.fn x = true ∨ X.env.scope.names.lookup x = some .local := by first | exact .inl rfl | exact .inr rfl | assumption) : wpAny M A (storeName X.env x u) Q E s := by
  obtain ⟨m, hn, hl⟩ := id I.loc
  have hcls : (X.env.scope.kind == .class || (X.env.scope.kind == .module && X.env.locals != X.env.globals)) = false := by rw [I.ok.kind]; rfl
  have hiσ : i < σ.length := by rw [I.len]; exact (List.getElem?_eq_some_iff.mp hi).1
  have cne := I.cne
  have tracked : ∀ {a : Addr} {h' : Heap}, (∃ o, s.heap.get? a = some o ∧ H a = none) → Heap.SameBut a s.heap h' → HOk X.prog X.w H h' := fun {a h'} ha hs b ob e => by
    obtain ⟨_, _, hfree⟩ := ha
    refine (I.hok b ob e).stay (fun c w' hc q => (hs.2 c ?_).trans q) (fun _ q => q) fun _ _ q => q
    rintro rfl
    rcases hc with rfl | hc
    · rw [hfree] at e; cases e
    · rw [hfree] at hc; cases hc
  rcases hx with hk | hk
  · refine wpAny_storeName_local hk hn (fun h' hn' hs => ?_) hcls
    obtain ⟨oL, _, _, hoL, _⟩ := id hn
    refine h _ ⟨I.ok, I.os, I.bare, ⟨fun b o e n hb hx => ?_, fun b o e n hb hx => ?_, I.base.free, fun b o e hx => ?_, I.base.tups, I.base.frzs, I.base.tbls⟩, ⟨_, hn', fun j y v' e1 e2 e3 => ?_⟩, fun y c e => ?_, I.free, I.freeC, fun p hp => ?_, tracked ⟨oL, hoL, I.free⟩ hs, by simpa using I.len⟩ ⟨_, hs, .inl rfl⟩
    · exact (hs.2 b (Nat.ne_of_lt (Nat.lt_of_lt_of_le (Heap.lt_size e) I.ok.above))).trans (I.base.keep b o e n hb hx)
    · obtain ⟨sl, e1⟩ := I.base.slot b o e n hb hx
      exact ⟨sl, (hs.2 b (Nat.ne_of_lt (Nat.lt_of_lt_of_le (Heap.lt_size e) I.ok.above))).trans e1⟩
    · obtain ⟨o', e1⟩ := I.base.there b o e hx
      exact ⟨o', (hs.2 b (Nat.ne_of_lt (Nat.lt_of_lt_of_le (Heap.lt_size e) I.ok.above))).trans e1⟩
    · by_cases hj : j = i
      · subst hj
        rw [hi] at e1; cases e1
        rw [List.getElem?_set_self hiσ] at e2
        cases e2
        exact ⟨u, r, .inl ⟨hk, by simp⟩⟩
      · rw [List.getElem?_set_ne (Ne.symm hj)] at e2
        obtain ⟨u', r', q⟩ := hl j y v' e1 e2 e3
        refine ⟨u', r', ?_⟩
        rcases q with ⟨k, e⟩ | ⟨k, c, e, z⟩
        · refine .inl ⟨k, ?_⟩
          have : y ≠ x := fun e => hj (nodup_ix hN e1 (e ▸ hi))
          simp [this, e]
        · exact .inr ⟨k, c, e, z.sameBut hs (cne y c e)⟩
    · obtain ⟨w', z⟩ := I.cell y c e
      exact ⟨w', z.sameBut hs (cne y c e)⟩
    · obtain ⟨e, n, ne, nf, d⟩ := I.pin p hp
      exact ⟨(hs.2 p.1 ne).trans e, n, ne, nf, d⟩
  · have hfn : X.fn x = true := by
      rcases hf with z | z
      · exact z
      · rw [z] at hk; cases hk
    obtain ⟨c, hc⟩ := I.ok.has x (.inl hk)
    obtain ⟨w', z⟩ := I.cell x c hc
    refine wpAny_storeName_cell I.ok.kind hk hc z (fun h' hc' hs => ?_)
    obtain ⟨oc, hoc, hocd⟩ := id z
    refine h { s with heap := h' } ⟨I.ok, I.os, I.bare, ⟨fun b o e n hb hx => ?_, fun b o e n hb hx => ?_, I.base.free, fun b o e hx => ?_, I.base.tups, I.base.frzs, I.base.tbls⟩, ⟨m, hn.sameBut hs (Ne.symm (cne x c hc)), fun j y v' e1 e2 e3 => ?_⟩, fun y c' e => ?_, I.free, I.freeC, fun p hp => ?_, tracked ⟨oc, hoc, I.freeC x c hc⟩ hs, by simpa using I.len⟩ ⟨c, hs, .inr hc⟩
    · exact (hs.2 b (Nat.ne_of_lt (Nat.lt_of_lt_of_le (Heap.lt_size e) (I.ok.cab x c hfn hc)))).trans (I.base.keep b o e n hb hx)
    · obtain ⟨sl, e1⟩ := I.base.slot b o e n hb hx
      exact ⟨sl, (hs.2 b (Nat.ne_of_lt (Nat.lt_of_lt_of_le (Heap.lt_size e) (I.ok.cab x c hfn hc)))).trans e1⟩
    · obtain ⟨o', e1⟩ := I.base.there b o e hx
      exact ⟨o', (hs.2 b (Nat.ne_of_lt (Nat.lt_of_lt_of_le (Heap.lt_size e) (I.ok.cab x c hfn hc)))).trans e1⟩
    · by_cases hj : j = i
      · subst hj
        rw [hi] at e1; cases e1
        rw [List.getElem?_set_self hiσ] at e2
        cases e2
        exact ⟨u, r, .inr ⟨.inl hk, c, hc, hc'⟩⟩
      · rw [List.getElem?_set_ne (Ne.symm hj)] at e2
        obtain ⟨u', r', q⟩ := hl j y v' e1 e2 e3
        refine ⟨u', r', ?_⟩
        rcases q with q | ⟨k, c', e, z'⟩
        · exact .inl q
        · refine .inr ⟨k, c', e, z'.sameBut hs ?_⟩
          rintro rfl
          exact hj (nodup_ix hN e1 (I.ok.inj _ _ _ e hc ▸ hi))
    · by_cases hcc : c' = c
      · subst hcc; exact ⟨_, hc'⟩
      · obtain ⟨w2, z2⟩ := I.cell y c' e
        exact ⟨w2, z2.sameBut hs hcc⟩
    · obtain ⟨e, n, ne, nf, d⟩ := I.pin p hp
      refine ⟨(hs.2 p.1 ?_).trans e, n, ne, nf, d⟩
      intro q
      rw [q, hoc] at e
      have q' : oc = p.2 := Option.some.inj e
      exact d w' (by rw [← q']; exact hocd)
theorem store_ok {M : Model} {A : Around} {E : Value → Shared → Prop} {i : Nat} {x : Str} {v : V} {u : Value} {Q : Unit → Shared → Prop} (I : Inv X pins σ H s) (hN : X.N.Nodup) (hi : X.N[i]? = some x) (hx : Loc X.env.scope x) (r : RelV v u)
    (h : ∀ s', Inv X pins (σ.set i (some v)) H s' → Q () s') (hf : X.fn x = true ∨ X.env.scope.names.lookup x = some .local := by first | exact .inl rfl | exact .inr rfl | assumption) : wpAny M A (storeName X.env x u) Q E s :=
  store_ok2 I hN hi hx r (fun s' I' _ => h s' I') hf
/-- behind a call or a block, the state as it is -/
theorem Inv.call' {s' : Shared} {ch : List Addr} (I : Inv X pins σ H s) (ho : s'.os = s.os) (u : Un (frs X.stack) ch H H' s.heap s'.heap) (hok : HOk X.prog X.w H' s'.heap) (hg : AllBare s'.gens)
    (hch : ∀ b ∈ ch, (b ∈ X.ex ∨ X.s₀.heap.objs.size ≤ b) ∧ b ≠ X.env.locals ∧ (∀ x c, X.env.cells.lookup x = some c → c ≠ b) ∧ ∀ p ∈ X.pn ++ pins, p.1 ≠ b) : Inv X pins σ H' s' := by
  obtain ⟨h', g', d', t', o'⟩ := s'
  have e : o' = s.os := ho
  subst e
  exact I.call (g' := g') (t' := t') (d' := d') u hok hg hch
end

/-! ### the judgements -/
/-- an exception: its class, its own dict's address (where it has one), the abstract heap behind it -/
abbrev XK := Value → Option Addr → Hp → Prop
abbrev St := List (Option V)
abbrev VK := V → Hp → Prop
/-- an expression's reading; a test's; an argument list's -/
abbrev TE := St → Hp → VK → Prop
abbrev TT := St → Hp → (Bool → Hp → Prop) → Prop
abbrev TA := St → Hp → (List V → Hp → Prop) → Prop
/-- what is wanted behind a statement -/
structure Ends where
  nx : St → Hp → Prop
  rt : VK
  bk : St → Hp → Prop := fun _ _ => False
  ct : St → Hp → Prop := fun _ _ => False
abbrev TS := Ends → St → Hp → Prop

def EP (X : Cx) (pins : List (Addr × Obj)) (σ : St) (Q : VK) (u : Value) (s' : Shared) : Prop := ∃ v H', Inv X pins σ H' s' ∧ RelV v u ∧ Q v H'
def TP (X : Cx) (pins : List (Addr × Obj)) (σ : St) (Q : Bool → Hp → Prop) (b : Bool) (s' : Shared) : Prop := ∃ H', Inv X pins σ H' s' ∧ Q b H'
def AP (X : Cx) (pins : List (Addr × Obj)) (σ : St) (Q : List V → Hp → Prop) (us : List Value) (s' : Shared) : Prop := ∃ vs H', Inv X pins σ H' s' ∧ Vals vs us ∧ Q vs H'
def SP (X : Cx) (pins : List (Addr × Obj)) (D : Ends) (f : Flow) (s' : Shared) : Prop :=
  match f with
  | .next => ∃ σ' H', Inv X pins σ' H' s' ∧ D.nx σ' H'
  | .brk => ∃ σ' H', Inv X pins σ' H' s' ∧ D.bk σ' H'
  | .cont => ∃ σ' H', Inv X pins σ' H' s' ∧ D.ct σ' H'
  | .ret u => ∃ v σ' H', Inv X pins σ' H' s' ∧ RelV v u ∧ D.rt v H'

def PE (X : Cx) (e : Expr) (t : TE) : Prop :=
  ∀ (pins : List (Addr × Obj)) (s : Shared) (σ : St) (H : Hp) (Q : VK), Inv X pins σ H s → t σ H Q → wpAny (model X.prog X.w) X.A (eval e X.env) (EP X pins σ Q) X.xe s
def PT (X : Cx) (e : Expr) (t : TT) : Prop :=
  ∀ (pins : List (Addr × Obj)) (s : Shared) (σ : St) (H : Hp) (Q : Bool → Hp → Prop), Inv X pins σ H s → t σ H Q → wpAny (model X.prog X.w) X.A (isTrue e X.env (eval e X.env)) (TP X pins σ Q) X.xe s
/-- a test whatever its 'whole' is (and, or) -/
def PW (X : Cx) (e : Expr) (t : TT) : Prop :=
  ∀ (whole : Sem Value) (pins : List (Addr × Obj)) (s : Shared) (σ : St) (H : Hp) (Q : Bool → Hp → Prop), Inv X pins σ H s → t σ H Q → wpAny (model X.prog X.w) X.A (isTrue e X.env whole) (TP X pins σ Q) X.xe s
theorem PW.pt {X : Cx} {e : Expr} {t : TT} (h : PW X e t) : PT X e t := h _
/-- an argument list (no star), from the left -/
def PA (X : Cx) (es : List Expr) (t : TA) : Prop :=
  ∀ (pos : Pos) (pins : List (Addr × Obj)) (s : Shared) (σ : St) (H : Hp) (Q : List V → Hp → Prop), Inv X pins σ H s → t σ H Q → wpAny (model X.prog X.w) X.A (spliced (backTo pos (starEach es X.env))) (AP X pins σ Q) X.xe s
def PS (X : Cx) (st : Stmt) (t : TS) : Prop :=
  ∀ (pins : List (Addr × Obj)) (s : Shared) (σ : St) (H : Hp) (D : Ends), Inv X pins σ H s → t D σ H → wpAny (model X.prog X.w) X.A (exec st X.env) (SP X pins D) X.xe s
def PSs (X : Cx) (st : List Stmt) (t : TS) : Prop :=
  ∀ (pins : List (Addr × Obj)) (s : Shared) (σ : St) (H : Hp) (D : Ends), Inv X pins σ H s → t D σ H → wpAny (model X.prog X.w) X.A (execs st X.env) (SP X pins D) X.xe s
/-- weaken the end -/
theorem thn {α : Type} {t : Sem α} {Q Q' : α → Shared → Prop} {M : Model} {A : Around} {E : Value → Shared → Prop} {s : Shared} (h : wpAny M A t Q E s) (hQ : ∀ a s, Q a s → Q' a s) : wpAny M A t Q' E s := wpAny_mono h hQ fun _ _ x => x
end L2

namespace L2
open PySem PySem.Spec PyProof.Rows
section
variable {X : Cx}


/-! ### names and constants -/
def tVar (i : Nat) : TE := fun σ H Q => ∃ v, σ[i]? = some (some v) ∧ Q v H
def tC (v : V) : TE := fun _ H Q => Q v H
theorem pe_var {i : Nat} {x : Str} {pos : Pos} (hN : X.N[i]? = some x) (hv : Vis X.env.scope x) (hd : (x == ("__debug__" : Str)) = false := by decide) (hcd : (x == ("__classdict__" : Str)) = false := by decide) : PE X (.Name x pos) (tVar i) := by
  intro pins s σ H Q I h
  obtain ⟨v, e, h⟩ := h
  obtain ⟨m, hn, hl⟩ := I.loc
  obtain ⟨u, r, l⟩ := hl i x v hN e hv
  have fin : EP X pins σ Q u s := ⟨v, H, I, r, h⟩
  rcases l with ⟨hk, hm⟩ | ⟨hk, c, hc, hcell⟩
  · exact wpAny_Name (wpAny_loadName_local I.ok.kind hk hn hm fin) hd
  · rcases hk with hk | hk
    · exact wpAny_Name (wpAny_loadName_cell I.ok.kind hk hc hcell fin) hd
    · exact wpAny_Name (wpAny_loadName_free I.ok.kind hk hc hcell fin hcd) hd
theorem pe_int {i j pos} : PE X (.Constant (.int i) j pos) (tC (.int i)) := fun _ _ _ H _ I h => wpAny_Constant_int ⟨.int i, H, I.tok _, ⟨_, rfl⟩, h⟩
theorem pe_bl {b j pos} : PE X (.Constant (.bool b) j pos) (tC (.bl b)) := fun _ _ _ H _ I h => Constant_bool ⟨.bl b, H, I, rfl, h⟩
theorem pe_non {j pos} : PE X (.Constant .none j pos) (tC .non) := fun _ _ _ H _ I h => Constant_none ⟨.non, H, I, rfl, h⟩
theorem pe_str {x j pos} : PE X (.Constant (.str x) j pos) (tC (.str x)) := fun _ _ _ H _ I h => Calls.Constant_str ⟨.str x, H, I.tok _, ⟨_, rfl⟩, h⟩

/-- a global name of the def -/
def Gl (X : Cx) (x : Str) : Prop := X.env.kindOf x = some .globalImplicit
theorem ld_glob {E : Value → Shared → Prop} {pins : List (Addr × Obj)} {s : Shared} {σ : St} {H : Hp} {x : Str} {u : Value} {pos : Pos} {Q : Value → Shared → Prop} (I : Inv X pins σ H s) (hg : Gl X x) (hm : X.mg x = some u) (h : Q u s)
    (hd : (x == ("__debug__" : Str)) = false := by decide) : wpAny (model X.prog X.w) X.A (eval (.Name x pos) X.env) Q E s :=
  Calls.Name_function_global I.ok.kind hg (Calls.loadGlobal_global (by rw [I.ok.glob]; exact I.mod.glob.keeps I.bk) hm h) hd
theorem ld_blt {E : Value → Shared → Prop} {pins : List (Addr × Obj)} {s : Shared} {σ : St} {H : Hp} {x : Str} {u : Value} {pos : Pos} {Q : Value → Shared → Prop} (I : Inv X pins σ H s) (hg : Gl X x) (hm : X.mg x = none) (hv : bootBuiltins x = some u) (h : Q u s)
    (hn : x ≠ "__name__" := by decide) (hd : (x == ("__debug__" : Str)) = false := by decide) : wpAny (model X.prog X.w) X.A (eval (.Name x pos) X.env) Q E s := by
  obtain ⟨mb, h1, h2⟩ := I.mod.blt
  exact Calls.Name_function_global I.ok.kind hg (Calls.loadGlobal_builtin (by rw [I.ok.glob]; exact I.mod.glob.keeps I.bk) hm (by rw [I.ok.blt]; exact h1.keeps I.bk) ((h2 x hn).trans hv) h) hd
/-- a module's constant, a class, a function, as a value -/
theorem pe_glob {x : Str} {v : V} {u : Value} {pos : Pos} (hg : Gl X x) (hm : X.mg x = some u) (r : RelV v u) (hd : (x == ("__debug__" : Str)) = false := by decide) : PE X (.Name x pos) (tC v) :=
  fun _ _ _ H _ I h => ld_glob I hg hm ⟨v, H, I, r, h⟩ hd
theorem pe_bltn {x : Str} {v : V} {u : Value} {pos : Pos} (hg : Gl X x) (hm : X.mg x = none) (hv : bootBuiltins x = some u) (r : RelV v u) (hn : x ≠ "__name__" := by decide) (hd : (x == ("__debug__" : Str)) = false := by decide) : PE X (.Name x pos) (tC v) :=
  fun _ _ _ H _ I h => ld_blt I hg hm hv ⟨v, H, I, r, h⟩ hn hd

/-! ### arithmetic -/
variable {a b : Expr} {ta tb : TE} {pos : Pos}

/-! ### comparisons -/
def PC (X : Cx) (op : CmpOp) (a b : Expr) (t : TE) : Prop :=
  ∀ (pins : List (Addr × Obj)) (s : Shared) (σ : St) (H : Hp) (Q : VK), Inv X pins σ H s → t σ H Q →
    wpAny (model X.prog X.w) X.A (eval a X.env) (fun v s₁ => wpAny (model X.prog X.w) X.A (eval b X.env) (fun u s₂ => wpAny (model X.prog X.w) X.A (compareOp op v u) (EP X pins σ Q) X.xe s₂) X.xe s₁) X.xe s
/-- is None -/
def tIsN (ta : TE) : TE := fun σ H Q => ta σ H fun x H1 => Q (.bl (decide (x = .non))) H1
theorem RelV.none_iff {x : V} {v : Value} (r : RelV x v) : (v == Value.none) = decide (x = .non) := by
  cases x with
  | non => cases r; rfl
  | bl _ => cases r; rfl
  | int _ => obtain ⟨t, rfl⟩ := r; rfl
  | str _ => obtain ⟨t, rfl⟩ := r; rfl
  | byt _ => obtain ⟨t, rfl⟩ := r; rfl
  | flt _ => obtain ⟨t, rfl⟩ := r; rfl
  | ref _ => cases r; rfl
  | ty _ => cases r; rfl
theorem pc_isN {j pos'} (ha : PE X a ta) : PC X .Is a (.Constant .none j pos') (tIsN ta) := by
  intro pins s σ H Q I h
  refine thn (ha pins s σ H _ I h) fun v s1 ⟨x, H1, I1, r1, q1⟩ => ?_
  exact Constant_none (is_none_gen ⟨.bl _, H1, I1, by rw [r1.none_iff]; rfl, q1⟩)
/-- a comparison as a value, as a test -/
def tB (t : TE) : TT := fun σ H Q => t σ H fun x H1 => ∃ c, x = .bl c ∧ Q c H1
theorem pe_cmp {op : CmpOp} {t : TE} (h : PC X op a b t) (h1 : behindInMarks op b = false := by first | exact nobehind _ (by decide) (by decide) | rfl) : PE X (.Compare a [op] [b] pos) t := fun pins s σ H Q I hw => wpAny_Compare1 (h pins s σ H Q I hw) h1
theorem pt_cmp {op : CmpOp} {t : TE} (h : PC X op a b t) (h1 : behindInMarks op b = false := by first | exact nobehind _ (by decide) (by decide) | rfl) : PT X (.Compare a [op] [b] pos) (tB t) := by
  intro pins s σ H Q I hw
  refine wpAny_isTrue_Compare1 (thn (h pins s σ H _ I hw) fun v s1 h1 => thn h1 fun u s2 h2 => thn h2 fun c s3 ⟨x, H1, I1, r1, q1⟩ => ?_) h1
  obtain ⟨d, rfl, q⟩ := q1
  cases r1
  exact wpAny_truthy_bool ⟨H1, I1, q⟩
/-- an expression whose value is a bool, as a test -/
theorem pt_val {e : Expr} {t : TE} (h : PE X e t) (he : ∀ whole, isTrue e X.env whole = (do let v ← whole; standAt e.pos; holding [v] (truthy v)) := by intro _; rfl) : PT X e (tB t) := by
  intro pins s σ H Q I hw
  refine isTrue_plain (thn (h pins s σ H _ I hw) fun v s1 ⟨x, H1, I1, r1, q1⟩ => ?_) (he _)
  obtain ⟨d, rfl, q⟩ := q1
  cases r1
  exact wpAny_truthy_bool ⟨H1, I1, q⟩

/-! ### and, or, not -/
variable {tA tB' : TT} {rest : List Expr}
def tAnd (t u : TT) : TT := fun σ H Q => t σ H fun c H1 => if c = true then u σ H1 Q else Q false H1
def tOr (t u : TT) : TT := fun σ H Q => t σ H fun c H1 => if c = true then Q true H1 else u σ H1 Q
def tNot (t : TT) : TT := fun σ H Q => t σ H fun c H1 => Q (!c) H1
theorem pw_and1 (ha : PT X a tA) : PW X (.BoolOp .And [a] pos) tA := by
  intro wh pins s σ H Q I h
  refine isTrue_and (thn (ha pins s σ H Q I h) fun c s1 e => ?_)
  cases c with
  | true => exact isTrue_and_nil e
  | false => exact e
theorem pw_or1 (ha : PT X a tA) : PW X (.BoolOp .Or [a] pos) tA := by
  intro wh pins s σ H Q I h
  refine isTrue_or (thn (ha pins s σ H Q I h) fun c s1 e => ?_)
  cases c with
  | false => exact isTrue_or_nil e
  | true => exact e
theorem pw_and (ha : PT X a tA) (hb : PW X (.BoolOp .And (b :: rest) pos) tB') : PW X (.BoolOp .And (a :: b :: rest) pos) (tAnd tA tB') := by
  intro wh pins s σ H Q I h
  refine isTrue_and (thn (ha pins s σ H _ I h) fun c s1 ⟨H1, I1, q1⟩ => ?_)
  cases c with
  | true => exact hb wh pins s1 σ H1 Q I1 q1
  | false => exact ⟨H1, I1, q1⟩
theorem pw_or (ha : PT X a tA) (hb : PW X (.BoolOp .Or (b :: rest) pos) tB') : PW X (.BoolOp .Or (a :: b :: rest) pos) (tOr tA tB') := by
  intro wh pins s σ H Q I h
  refine isTrue_or (thn (ha pins s σ H _ I h) fun c s1 ⟨H1, I1, q1⟩ => ?_)
  cases c with
  | true => exact ⟨H1, I1, q1⟩
  | false => exact hb wh pins s1 σ H1 Q I1 q1
theorem pt_not (ha : PT X a tA) : PT X (.UnaryOp .Not a pos) (tNot tA) := by
  intro pins s σ H Q I h
  exact isTrue_not (ha pins s σ H (fun c H1 => Q (!c) H1) I h)
/-- .. as values (bools) -/
def tAndV (ta tb : TE) : TE := fun σ H Q => ta σ H fun x H1 => ∃ c, x = .bl c ∧ if c = true then tb σ H1 Q else Q (.bl false) H1
theorem pe_one {op} {t : TE} (h : PE X a t) : PE X (.BoolOp op [a] pos) t := fun pins s σ H Q I hw => BoolOp_one (h pins s σ H Q I hw)
theorem pe_and (ha : PE X a ta) (hb : PE X (.BoolOp .And (b :: rest) pos) tb) : PE X (.BoolOp .And (a :: b :: rest) pos) (tAndV ta tb) := by
  intro pins s σ H Q I h
  refine BoolOp_and (thn (ha pins s σ H _ I h) fun v s1 ⟨x, H1, I1, r1, q1⟩ => ?_)
  obtain ⟨c, rfl, q1⟩ := q1
  cases r1
  refine wpAny_truthy_bool ?_
  cases c with
  | true => exact hb pins s1 σ H1 Q I1 q1
  | false => exact ⟨.bl false, H1, I1, rfl, q1⟩
end
end L2

namespace L2
open PySem PySem.Spec PyProof.Rows

/-! ### a list, a tuple that is read: tracked, frozen, or an object of the module -/
def SqL (K : PySem.W.Frag) (H : Hp) (a : Addr) (xs : List V) : Prop :=
  Rd H a (.lst xs) ∨
    ∃ (o : Obj) (its : Array Value) (n : Nat), K.lookup a = some o ∧ o.cls = .type "list" ∧ o.dict = none ∧ o.data = .seq its n ∧ its.size ≤ sizeLine ∧ Vals xs its.toList
def SqT (K : PySem.W.Frag) (H : Hp) (a : Addr) (xs : List V) : Prop :=
  Rd H a (.tup xs) ∨
    ∃ (o : Obj) (its : Array Value) (n : Nat), K.lookup a = some o ∧ o.cls = .type "tuple" ∧ o.data = .seq its n ∧ its.size ≤ sizeLine ∧ Vals xs its.toList
def absV : Value → Option V
  | .none => some .non
  | .bool b => some (.bl b)
  | .int i _ => some (.int i)
  | .str x _ => some (.str x)
  | .bytes b _ => some (.byt b)
  | .float b _ => some (.flt b)
  | .ref a => some (.ref a)
  | .type n => some (.ty n)
  | _ => none
theorem RelV.abs {x : V} {u : Value} (r : RelV x u) : absV u = some x := by
  cases x with
  | non => cases r; rfl
  | bl _ => cases r; rfl
  | int _ => obtain ⟨t, rfl⟩ := r; rfl
  | str _ => obtain ⟨t, rfl⟩ := r; rfl
  | byt _ => obtain ⟨t, rfl⟩ := r; rfl
  | flt _ => obtain ⟨t, rfl⟩ := r; rfl
  | ref _ => cases r; rfl
  | ty _ => cases r; rfl
theorem RelV.inj {x y : V} {u : Value} (r : RelV x u) (q : RelV y u) : x = y := Option.some.inj (r.abs.symm.trans q.abs)
theorem Vals.inj : ∀ {xs ys : List V} {us : List Value}, Vals xs us → Vals ys us → xs = ys
  | _, _, _, .nil, .nil => rfl
  | _, _, _, .cons r t, .cons r' t' => by rw [r.inj r', Vals.inj t t']
section
variable {X : Cx} {pins : List (Addr × Obj)} {σ : St} {H : Hp} {s : Shared} {a : Addr} {xs ys : List V}
theorem SqL.of {K : PySem.W.Frag} (h : H a = some (.lst xs)) : SqL K H a xs := .inl (.inl h)
theorem SqT.of {K : PySem.W.Frag} (h : H a = some (.tup xs)) : SqT K H a xs := .inl (.inl h)
theorem Inv.list (I : Inv X pins σ H s) (h : SqL X.K H a xs) : ∃ its : List Value, Vals xs its ∧ PlainL s.heap a its.toArray ∧ xs.length ≤ sizeLine := by
  rcases h with h | ⟨o, its, n, hk, hc, hd, hs, hz, r⟩
  · obtain ⟨z, its, n, r, e⟩ := h.ok I.hok
    exact ⟨its, r, ⟨_, n, e, rfl, rfl, rfl⟩, z⟩
  · refine ⟨its.toList, r, ⟨o, n, I.kIn a o hk, hc, hd, by simpa using hs⟩, ?_⟩
    have e := r.length
    simp only [Array.length_toList] at e
    omega
theorem Inv.tuple (I : Inv X pins σ H s) (h : SqT X.K H a xs) : ∃ its : List Value, Vals xs its ∧ IsTup s.heap a its.toArray ∧ xs.length ≤ sizeLine := by
  rcases h with h | ⟨o, its, n, hk, hc, hs, hz, r⟩
  · obtain ⟨z, its, r, p⟩ := h.ok I.hok
    exact ⟨its, r, p, z⟩
  · refine ⟨its.toList, r, ⟨o, I.kIn a o hk, hc, n, by simpa using hs⟩, ?_⟩
    have e := r.length
    simp only [Array.length_toList] at e
    omega
theorem Inv.list_inj (I : Inv X pins σ H s) (h : SqL X.K H a xs) (h' : SqL X.K H a ys) : xs = ys := by
  obtain ⟨its, r, ⟨o, n, e, _, _, d⟩, _⟩ := I.list h
  obtain ⟨its', r', ⟨o', n', e', _, _, d'⟩, _⟩ := I.list h'
  rw [e] at e'; cases e'
  rw [d] at d'
  injection d' with d1 _
  have : its = its' := by simpa using congrArg Array.toList d1
  subst this
  exact r.inj r'
theorem Inv.tuple_inj (I : Inv X pins σ H s) (h : SqT X.K H a xs) (h' : SqT X.K H a ys) : xs = ys := by
  obtain ⟨its, r, ⟨o, e, _, n, d⟩, _⟩ := I.tuple h
  obtain ⟨its', r', ⟨o', e', _, n', d'⟩, _⟩ := I.tuple h'
  rw [e] at e'; cases e'
  rw [d] at d'
  injection d' with d1 _
  have : its = its' := by simpa using congrArg Array.toList d1
  subst this
  exact r.inj r'
end

/-! ### another wish about exceptions -/
abbrev Cx.wish (X : Cx) (E : Value → Shared → Prop) : Cx := { X with xe := E }
/-- no exception leaves -/
abbrev Cx.nox (X : Cx) : Cx := X.wish fun _ _ => False
theorem Cx.Ok.wish {X : Cx} (ok : X.Ok) (E : Value → Shared → Prop) : (X.wish E).Ok :=
  ⟨ok.mod, ok.kind, ok.glob, ok.blt, ok.above, ok.inj, ok.has, ok.cab, ok.hd, ok.frames, ok.stk, ok.exf, ok.bs, ok.bsz, ok.noex, ok.exfs, ok.funs, ok.frf⟩
theorem Cx.Ok.unwish {X : Cx} {E : Value → Shared → Prop} (ok : (X.wish E).Ok) : X.Ok :=
  ⟨ok.mod, ok.kind, ok.glob, ok.blt, ok.above, ok.inj, ok.has, ok.cab, ok.hd, ok.frames, ok.stk, ok.exf, ok.bs, ok.bsz, ok.noex, ok.exfs, ok.funs, ok.frf⟩
section
variable {X : Cx} {pins : List (Addr × Obj)} {σ : St} {H : Hp} {s : Shared} {E : Value → Shared → Prop}
theorem Inv.wish (I : Inv X pins σ H s) (E : Value → Shared → Prop) : Inv (X.wish E) pins σ H s := ⟨I.ok.wish E, I.os, I.bare, I.base, I.loc, I.cell, I.free, I.freeC, I.pin, I.hok, I.len⟩
theorem Inv.unwish (I : Inv (X.wish E) pins σ H s) : Inv X pins σ H s := ⟨I.ok.unwish, I.os, I.bare, I.base, I.loc, I.cell, I.free, I.freeC, I.pin, I.hok, I.len⟩
theorem SP.unwish {D : Ends} {f : Flow} {s' : Shared} (h : SP (X.wish E) pins D f s') : SP X pins D f s' := by
  cases f with
  | next => obtain ⟨σ', H', I, q⟩ := h; exact ⟨σ', H', I.unwish, q⟩
  | brk => obtain ⟨σ', H', I, q⟩ := h; exact ⟨σ', H', I.unwish, q⟩
  | cont => obtain ⟨σ', H', I, q⟩ := h; exact ⟨σ', H', I.unwish, q⟩
  | ret u => obtain ⟨v, σ', H', I, r, q⟩ := h; exact ⟨v, σ', H', I.unwish, r, q⟩
theorem PSs.nox {st : List Stmt} {t : TS} (h : PSs X.nox st t) : PSs X st t := fun pins s σ H D I hw =>
  wpAny_mono (h pins s σ H D (I.wish _) hw) (fun _ _ q => q.unwish) fun _ _ z => False.elim z
end

/-! ### blocks and small statements -/
section
variable {X : Cx} {st : Stmt} {rest : List Stmt} {t u : TS} {e : Expr} {te : TE} {pos : Pos}
def tNext : TS := fun D σ H => D.nx σ H
def tSeq (t u : TS) : TS := fun D σ H => t { D with nx := u D } σ H
theorem pss_nil : PSs X [] tNext := fun _ _ σ H _ I h => wpAny_execs_nil ⟨σ, H, I, h⟩
theorem pss_cons (h1 : PS X st t) (h2 : PSs X rest u) : PSs X (st :: rest) (tSeq t u) := by
  intro pins s σ H D I h
  refine wpAny_execs_cons (thn (h1 pins s σ H { D with nx := u D } I h) fun f s1 q => ?_)
  cases f with
  | next =>
    obtain ⟨σ', H', I', q⟩ := q
    exact h2 pins s1 σ' H' D I' q
  | ret v => exact q
  | brk => exact q
  | cont => exact q
theorem pss_one (h1 : PS X st t) : PSs X [st] t := by
  intro pins s σ H D I h
  refine wpAny_execs_cons (thn (h1 pins s σ H D I h) fun f s1 q => ?_)
  cases f with
  | next => exact wpAny_execs_nil q
  | ret v => exact q
  | brk => exact q
  | cont => exact q
/-- in a def's body nothing is shown -/
theorem Inv.quiet {pins : List (Addr × Obj)} {σ : St} {H : Hp} {s : Shared} (I : Inv X pins σ H s) : interactive X.env = false := by simp [interactive, I.ok.kind]
/-- an expression whose value is dropped -/
def tDrop (te : TE) : TS := fun D σ H => te σ H fun _ H1 => D.nx σ H1
theorem ps_expr (he : PE X e te) (hs : swapsWith e none pos.line X.env = pure false := by rfl) : PS X (.Expr e pos) (tDrop te) := by
  intro pins s σ H D I h
  exact wpAny_Expr_any (thn (he pins s σ H _ I h) fun v s1 ⟨x, H1, I1, r1, q1⟩ => ⟨σ, H1, I1, q1⟩) I.quiet hs
def tRet (te : TE) : TS := fun D σ H => te σ H D.rt
theorem ps_ret (he : PE X e te) : PS X (.Return (some e) pos) (tRet te) := by
  intro pins s σ H D I h
  exact wpAny_Return_some (thn (he pins s σ H _ I h) fun v s1 ⟨x, H1, I1, r1, q1⟩ => ⟨x, σ, H1, I1, r1, q1⟩)
def tIfS (c : TT) (t u : TS) : TS := fun D σ H => c σ H fun b H1 => if b = true then t D σ H1 else u D σ H1
theorem ps_if {c : Expr} {a b : List Stmt} {tc : TT} (hc : PT X c tc) (ha : PSs X a t) (hb : PSs X b u) : PS X (.If c a b pos) (tIfS tc t u) := by
  intro pins s σ H D I h
  refine wpAny_If (thn (hc pins s σ H _ I h) fun d s1 ⟨H1, I1, q1⟩ => ?_)
  cases d with
  | true => exact ha pins s1 σ H1 D I1 q1
  | false => exact hb pins s1 σ H1 D I1 q1
end

/-! ### targets -/
abbrev TG := V → St → Hp → (St → Hp → Prop) → Prop
abbrev TGs := List V → St → Hp → (St → Hp → Prop) → Prop
def PG (X : Cx) (target : Expr) (t : TG) : Prop :=
  ∀ (pins : List (Addr × Obj)) (s : Shared) (σ : St) (H : Hp) (v : V) (u : Value) (Q : St → Hp → Prop), Inv X pins σ H s → RelV v u → t v σ H Q →
    wpAny (model X.prog X.w) X.A (assign target X.env u) (fun _ s' => ∃ σ' H', Inv X pins σ' H' s' ∧ Q σ' H') X.xe s
/-- several targets, one after another -/
def PGs (X : Cx) (ts : List Expr) (t : TGs) : Prop :=
  ∀ (pins : List (Addr × Obj)) (s : Shared) (σ : St) (H : Hp) (vs : List V) (us : List Value) (Q : St → Hp → Prop), Inv X pins σ H s → Vals vs us → t vs σ H Q →
    wpAny (model X.prog X.w) X.A (assignInOrder ((assignEach ts X.env).map (·.2)) us) (fun _ s' => ∃ σ' H', Inv X pins σ' H' s' ∧ Q σ' H') X.xe s
/-- o[i] = v, by values -/
abbrev TSet := V → V → V → Hp → (Hp → Prop) → Prop
def PSet (X : Cx) (t : TSet) : Prop :=
  ∀ (pins : List (Addr × Obj)) (s : Shared) (σ : St) (H : Hp) (o i v : V) (ov iv u : Value) (Q : Hp → Prop), Inv X pins σ H s → RelV o ov → RelV i iv → RelV v u → t o i v H Q →
    wpAny (model X.prog X.w) X.A (setItem ov iv u) (fun _ s' => ∃ H', Inv X pins σ H' s' ∧ Q H') X.xe s
section
variable {X : Cx} {pos : Pos}
def gName (i : Nat) : TG := fun v σ H Q => Q (σ.set i (some v)) H
theorem pg_name {i : Nat} {x : Str} (hN : X.N.Nodup) (hi : X.N[i]? = some x) (hx : Loc X.env.scope x) (hf : X.fn x = true ∨ X.env.scope.names.lookup x = some .local := by first | exact .inl rfl | exact .inr rfl | assumption) : PG X (.Name x pos) (gName i) := by
  intro pins s σ H v u Q I r h
  exact wpAny_assign_Name (store_ok I hN hi hx r (fun s' I' => ⟨_, H, I', h⟩) hf)
def gNil : TGs := fun vs σ H Q => vs = [] ∧ Q σ H
def gCons (t : TG) (u : TGs) : TGs := fun vs σ H Q => ∃ v r, vs = v :: r ∧ t v σ H fun σ' H' => u r σ' H' Q
theorem pgs_nil : PGs X [] gNil := by
  intro pins s σ H vs us Q I r h
  obtain ⟨e, h⟩ := h
  subst e
  cases r
  exact assignInOrder_nil ⟨σ, H, I, h⟩
theorem pgs_cons {e : Expr} {es : List Expr} {t : TG} {u : TGs} (h1 : PG X e t) (h2 : PGs X es u)
    (hs : (assignEach (e :: es) X.env).map (·.2) = assign e X.env :: (assignEach es X.env).map (·.2) := by rfl) : PGs X (e :: es) (gCons t u) := by
  intro pins s σ H vs us Q I r h
  obtain ⟨v, vr, e1, h⟩ := h
  subst e1
  cases r with
  | cons r rr =>
    rw [hs]
    refine assignInOrder_cons (thn (h1 pins s σ H _ _ _ I r h) fun _ s1 ⟨σ1, H1, I1, q1⟩ => ?_)
    exact h2 pins s1 σ1 H1 _ _ Q I1 rr q1
/-- (a, b, ..) = a tuple of that length -/
def gTup (K : PySem.W.Frag) (n : Nat) (t : TGs) : TG := fun v σ H Q => ∃ a xs, v = .ref a ∧ SqT K H a xs ∧ xs.length = n ∧ t xs σ H Q
theorem pg_tup {es : List Expr} {k : Nat} {t : TGs} {n : Nat} (hc : X.calm = true) (h : PGs X es t)
    (hn : (assignEach es X.env).length = n := by rfl) (hst : (assignEach es X.env).findIdx? (·.1) = none := by rfl) : PG X (.Tuple es k pos) (gTup X.K n t) := by
  intro pins s σ H v u Q I r hw
  obtain ⟨a, xs, e1, hq, hl, hw⟩ := hw
  subst e1
  cases r
  obtain ⟨its, rv, ht, hz⟩ := I.tuple hq
  refine assign_Tuple_tuple (I.ok.hd hc) ht (by simp [hn, ← hl, rv.length]) hst fun h' hx => ?_
  have I1 : Inv X pins σ H { s with heap := h' } := I.kept (t' := s.toks) fun b o e => hx b o (Nat.ne_of_lt (Heap.lt_size e)) e
  exact h pins _ σ H xs _ Q I1 (by simpa using rv) hw
/-- o[i] = .. -/
def gSub (to ti : TE) (t : TSet) : TG := fun v σ H Q => to σ H fun o H1 => ti σ H1 fun i H2 => t o i v H2 fun H3 => Q σ H3
theorem pg_sub {o i : Expr} {to ti : TE} {t : TSet} (ho : PE X o to) (hi : PE X i ti) (hs : PSet X t)
    (ha : ∀ v, assign (.Subscript o i pos) X.env v = (do
      let ov ← holding [v] (eval o X.env)
      let iv ← holding [v, ov] (eval i X.env)
      standAt pos
      holding [v, ov, iv] (setItem ov iv v)
      release [v, ov, iv] []) := by intro _; rfl) : PG X (.Subscript o i pos) (gSub to ti t) := by
  intro pins s σ H v u Q I r h
  rw [ha]
  refine wpAny_bind (wpAny_holding (thn (ho pins s σ H _ I h) fun ov s1 ⟨x, H1, I1, r1, q1⟩ => ?_))
  refine wpAny_bind (wpAny_holding (thn (hi pins s1 σ H1 _ I1 q1) fun iv s2 ⟨y, H2, I2, r2, q2⟩ => ?_))
  refine wpAny_bind (wpAny_standAt (wpAny_bind (wpAny_holding (thn (hs pins s2 σ H2 x y v ov iv u _ I2 r1 r2 r q2) fun _ s3 ⟨H3, I3, q3⟩ => ?_))))
  exact wpAny_release ⟨σ, H3, I3, q3⟩
/-- target = value -/
def tAsg (te : TE) (g : TG) : TS := fun D σ H => te σ H fun x H1 => g x σ H1 D.nx
theorem ps_asg {tg e : Expr} {te : TE} {g : TG} (he : PE X e te) (hg : PG X tg g) (hs : swapsWithSole [tg] e pos.line X.env = pure false := by rfl) (hw : swappedStores [tg] e X.env = pure none := by rfl)
    (h1 : (assignEach [tg] X.env).map (·.2) = [assign tg X.env] := by rfl) : PS X (.Assign [tg] e pos) (tAsg te g) := by
  intro pins s σ H D I h
  refine wpAny_Assign_stores (thn (he pins s σ H _ I h) fun v s1 ⟨x, H1, I1, r1, q1⟩ => ?_) hs hw
  rw [h1]
  exact thn (hg pins s1 σ H1 x v _ I1 r1 q1) fun _ s2 q => q
/-- name = value -/
theorem ps_set {i : Nat} {x : Str} {e : Expr} {te : TE} {pos' : Pos} (hN : X.N.Nodup) (hi : X.N[i]? = some x) (hx : Loc X.env.scope x) (he : PE X e te) (hs : swapsWith e (some (.Name x pos')) pos.line X.env = pure false := by rfl) (hf : X.fn x = true ∨ X.env.scope.names.lookup x = some .local := by first | exact .inl rfl | exact .inr rfl | assumption) :
    PS X (.Assign [.Name x pos'] e pos) (tAsg te (gName i)) := by
  intro pins s σ H D I h
  refine wpAny_Assign_Name (thn (he pins s σ H _ I h) fun v s1 ⟨y, H1, I1, r1, q1⟩ => ?_) hs
  exact store_ok I1 hN hi hx r1 (fun s2 I2 => ⟨_, H1, I2, q1⟩) hf
end

/-! ### while -/
section
variable {X : Cx} {pos : Pos}
/-- the invariant W with its measure -/
def tWhile (c : TT) (tb : TS) : TS := fun D σ H => ∃ W : Nat → St → Hp → Prop, (∃ m, W m σ H) ∧ ∀ m σ H, W m σ H →
  c σ H fun b H1 => if b = true then ∃ N : St → Hp → Prop, (∀ σ' H', N σ' H' → ∃ m', m' < m ∧ W m' σ' H') ∧ tb { D with nx := N, ct := N, bk := D.nx } σ H1 else D.nx σ H1
theorem ps_while {c : Expr} {body : List Stmt} {tc : TT} {tb : TS} (hp : PassesOwn (model X.prog X.w) X.A X.env X.xe) (hc : PT X c tc) (hb : PSs X body tb) : PS X (.While c body [] pos) (tWhile tc tb) := by
  intro pins s σ H D I h
  obtain ⟨W, ⟨m0, w0⟩, turn⟩ := h
  refine wpAny_While (codeAny_whileLoop (fun n s' => ∃ σ' H', Inv X pins σ' H' s' ∧ W n σ' H') ?_ m0 ⟨σ, H, I, w0⟩)
  rintro n s1 ⟨σ1, H1, I1, w1⟩
  refine wpAny_passesOwn hp (thn (hc pins s1 σ1 H1 _ I1 (turn n σ1 H1 w1)) fun b s2 ⟨H2, I2, q2⟩ => ?_)
  cases b with
  | true =>
    obtain ⟨N, hN, q2⟩ := q2
    rw [if_pos rfl]
    refine wpAny_passesOwn hp (thn (hb pins s2 σ1 H2 _ I2 q2) fun f s3 q3 => ?_)
    cases f with
    | next =>
      obtain ⟨σ3, H3, I3, n3⟩ := q3
      obtain ⟨m', hm, w3⟩ := hN σ3 H3 n3
      exact ⟨m', hm, σ3, H3, I3, w3⟩
    | cont =>
      obtain ⟨σ3, H3, I3, n3⟩ := q3
      obtain ⟨m', hm, w3⟩ := hN σ3 H3 n3
      exact ⟨m', hm, σ3, H3, I3, w3⟩
    | brk => exact q3
    | ret v => exact q3
  | false =>
    rw [if_neg Bool.false_ne_true]
    exact wpAny_execs_nil ⟨σ1, H2, I2, q2⟩
end

/-! ### what a loop or a comprehension walks -/
/-- at turn i: it yields x (the heap may grow), or it stops -/
structure It where
  go : Nat → Hp → Prop
  yld : Nat → Hp → V → Hp → Prop
  stop : Nat → Hp → Prop
/-- the iterator's own objects may turn: they are not the frame's, not pinned, younger than the entry (or a comprehension's own) -/
def FpOk (X : Cx) (pins : List (Addr × Obj)) (H : Hp) (b : Addr) : Prop :=
  H b = none ∧ b ≠ X.env.locals ∧ b ∉ X.fs ∧ (b ∈ X.ex ∨ X.s₀.heap.objs.size ≤ b) ∧ (∀ x c, X.env.cells.lookup x = some c → c ≠ b) ∧ ∀ p ∈ X.pn ++ pins, p.1 ≠ b
theorem Inv.fpOk {X : Cx} {pins : List (Addr × Obj)} {σ : St} {H H' : Hp} {s : Shared} {b : Addr} (I : Inv X pins σ H s) (hb : s.heap.objs.size ≤ b) (hn : H' b = none) : FpOk X pins H' b := by
  refine ⟨hn, Nat.ne_of_gt (Nat.lt_of_lt_of_le I.lt hb), I.nofs hb, .inr (Nat.le_trans I.sz hb), fun x c e z => ?_, fun p hp z => ?_⟩
  · obtain ⟨v, q⟩ := I.cell x c e
    exact absurd (Nat.lt_of_lt_of_le q.lt (by rw [z]; exact hb)) (Nat.lt_irrefl _)
  · exact absurd (Nat.lt_of_lt_of_le (Heap.lt_size (I.pin p hp).1) (by rw [z]; exact hb)) (Nat.lt_irrefl _)
structure Turn (P : Program) (w : World) (K : PySem.W.Frag) (tg : Expr) (J : It) (fp : List Addr) (it : Addr) (tn : Nat → Heap → Prop) : Prop where
  mem : it ∈ fp
  obj : ∀ i h, tn i h → ∀ b ∈ fp, ∃ o, h.get? b = some o ∧ ∀ v, o.data ≠ .cell v
  keep : ∀ i h h', tn i h → (∀ b ∈ fp, ∀ o, h.get? b = some o → h'.get? b = some o) → tn i h'
  item : ∀ (X : Cx), X.prog = P → X.w = w → X.K = K → X.calm = true → ∀ (i : Nat) (pins : List (Addr × Obj)) (s : Shared) (σ : St) (H : Hp) (E : Value → Shared → Prop), Inv X pins σ H s → (∀ b ∈ fp, FpOk X pins H b) → tn i s.heap → J.go i H →
    wpAny (model P w) X.A (pyNext (.ref it)) (fun r s1 => ∃ u, r = some u ∧
      wpAny (model P w) X.A (letOwnedTupleGo tg (.ref it) u) (fun _ s2 => ∃ x H', Inv X pins σ H' s2 ∧ RelV x u ∧ J.yld i H x H' ∧ tn (i + 1) s2.heap ∧ ∀ b ∈ fp, H' b = none) E s1) E s
  done : ∀ (X : Cx), X.prog = P → X.w = w → X.K = K → X.calm = true → ∀ (i : Nat) (pins : List (Addr × Obj)) (s : Shared) (σ : St) (H : Hp) (E : Value → Shared → Prop), Inv X pins σ H s → (∀ b ∈ fp, FpOk X pins H b) → tn i s.heap → J.stop i H →
    wpAny (model P w) X.A (pyNext (.ref it)) (fun r s1 => r = none ∧ Inv X pins σ H s1) E s
  self : ∀ (A : Around) (i : Nat) (s : Shared) (Q : Value → Shared → Prop) (E : Value → Shared → Prop), tn i s.heap → Q (.ref it) s → wpAny (model P w) A (pyIter (.ref it)) Q E s
abbrev TI := St → Hp → (It → Hp → Prop) → Prop
/-- an iterator has come -/
def PIE (X : Cx) (pins : List (Addr × Obj)) (σ : St) (tg : Expr) (R : It → Hp → Prop) (itv : Value) (s2 : Shared) : Prop :=
  ∃ (it : Addr) (fp : List Addr) (tn : Nat → Heap → Prop) (J : It) (H' : Hp), itv = .ref it ∧ Inv X pins σ H' s2 ∧ Turn X.prog X.w X.K tg J fp it tn ∧ tn 0 s2.heap ∧ (∀ b ∈ fp, FpOk X pins H' b) ∧ R J H'
def PI (X : Cx) (tg iter : Expr) (wi : TI) : Prop :=
  ∀ (pins : List (Addr × Obj)) (s : Shared) (σ : St) (H : Hp) (R : It → Hp → Prop), Inv X pins σ H s → wi σ H R →
    wpAny (model X.prog X.w) X.A (eval iter X.env) (fun v s1 => wpAny (model X.prog X.w) X.A (pyIter v) (PIE X pins σ tg R) X.xe s1) X.xe s

/-- the step ahead of the store is nothing for an iterator that keeps no tuple -/
theorem go_of {M : Model} {A : Around} {E : Value → Shared → Prop} {s : Shared} {tg : Expr} {it : Addr} {u : Value} {o : Obj} {n : String} {vs : Array Value} {Q : Unit → Shared → Prop} (ho : s.heap.get? it = some o) (hc : o.cls = .type n) (hd : o.data = .fields vs)
    (hn : ["enumerate", "zip", "dict_itemiterator", "dict_reverseitemiterator", "odict_iterator", "itertools.zip_longest", "itertools.pairwise"].contains n = false) (hQ : Q () s) : wpAny M A (letOwnedTupleGo tg (.ref it) u) Q E s := by
  unfold letOwnedTupleGo
  cases tg <;> first
    | exact wpAny_pure hQ
    | (cases u <;> first
        | exact wpAny_pure hQ
        | (refine wpAny_bind (wpAny_load ho ?_)
           rw [hc, hd]
           show wpAny M A (if (["enumerate", "zip", "dict_itemiterator", "dict_reverseitemiterator", "odict_iterator", "itertools.zip_longest", "itertools.pairwise"].contains n && vs[0]? == some (rawInt _)) = true then _ else _) Q E s
           rw [if_neg (by intro h; rw [hn, Bool.false_and] at h; cases h)]
           exact wpAny_pure hQ))

/-- the list at a, as it stands at each turn (a loop may append to it) -/
def Itl (K : PySem.W.Frag) (a : Addr) : It :=
  ⟨fun i H => ∃ xs x, SqL K H a xs ∧ xs[i]? = some x, fun i H x H' => H' = H ∧ ∀ xs, SqL K H a xs → xs[i]? = some x, fun i H => ∃ xs, SqL K H a xs ∧ xs.length ≤ i⟩
def Itt (K : PySem.W.Frag) (a : Addr) : It :=
  ⟨fun i H => ∃ xs x, SqT K H a xs ∧ xs[i]? = some x, fun i H x H' => H' = H ∧ ∀ xs, SqT K H a xs → xs[i]? = some x, fun i H => ∃ xs, SqT K H a xs ∧ xs.length ≤ i⟩
/-- lo, lo + 1, .. (n of them) -/
def Itr (lo : Int) (n : Nat) : It := ⟨fun i _ => i < n, fun i H x H' => H' = H ∧ x = .int (lo + i), fun i _ => n ≤ i⟩
theorem turn_list {P : Program} {w : World} {K : PySem.W.Frag} {tg : Expr} (a it : Addr) : Turn P w K tg (Itl K a) [it] it (fun i h => h.IsListIter it a i) where
  mem := by simp
  obj := fun i h st b hb => by
    have e : b = it := by simpa using hb
    subst e
    obtain ⟨o, e, c, d⟩ := st
    exact ⟨o, e, fun v z => by rw [d] at z; cases z⟩
  keep := fun i h h' st k => st.at fun o e => k it (by simp) o e
  item := by
    intro X hP hw hK hc i pins s σ H E I hf st hg
    subst hP hw hK
    obtain ⟨xs, x, hq, hx⟩ := hg
    obtain ⟨its, rv, p, hz⟩ := I.list hq
    obtain ⟨u, hu, ru⟩ := rv.get hx
    obtain ⟨f0, f1, f2, f3, f4, f5⟩ := hf it (by simp)
    refine wpAny_pyNext_list_item st p.isList (x := u) (by simpa using hu) fun h' st' sb => ?_
    have I1 : Inv X pins σ H { s with heap := h' } := I.turned (t' := s.toks) (fun b o hb e => (sb.2 b hb).trans e) f0 f1 f3 f4 f5
    obtain ⟨o, e, c, d⟩ := id st'
    exact ⟨u, rfl, go_of (s := { s with heap := h' }) e c d (by decide) ⟨x, H, I1, ru, ⟨rfl, fun ys hy => by rw [I.list_inj hy hq]; exact hx⟩, st', fun b hb => (hf b hb).1⟩⟩
  done := by
    intro X hP hw hK hc i pins s σ H E I hf st hg
    subst hP hw hK
    obtain ⟨xs, hq, hx⟩ := hg
    obtain ⟨its, rv, p, hz⟩ := I.list hq
    obtain ⟨f0, f1, f2, f3, f4, f5⟩ := hf it (by simp)
    have hl := rv.length
    exact wpAny_pyNext_list_end (I.ok.hd hc) st p.isList (by simp; omega) fun h' eb => ⟨rfl, I.turned (t' := s.toks) (fun b o hb e => eb b o hb e) f0 f1 f3 f4 f5⟩
  self := fun _ _ _ _ _ st h => wpAny_pyIter_listiter st h
theorem turn_tuple {P : Program} {w : World} {K : PySem.W.Frag} {tg : Expr} (a it : Addr) : Turn P w K tg (Itt K a) [it] it (fun i h => h.IsTupleIter it a i) where
  mem := by simp
  obj := fun i h st b hb => by
    have e : b = it := by simpa using hb
    subst e
    obtain ⟨o, e, c, d⟩ := st
    exact ⟨o, e, fun v z => by rw [d] at z; cases z⟩
  keep := fun i h h' st k => st.at fun o e => k it (by simp) o e
  item := by
    intro X hP hw hK hc i pins s σ H E I hf st hg
    subst hP hw hK
    obtain ⟨xs, x, hq, hx⟩ := hg
    obtain ⟨its, rv, p, hz⟩ := I.tuple hq
    obtain ⟨u, hu, ru⟩ := rv.get hx
    obtain ⟨f0, f1, f2, f3, f4, f5⟩ := hf it (by simp)
    refine wpAny_pyNext_tuple_item st (show s.heap.IsTuple a its.toArray from p) (x := u) (by simpa using hu) fun h' st' sb => ?_
    have I1 : Inv X pins σ H { s with heap := h' } := I.turned (t' := s.toks) (fun b o hb e => (sb.2 b hb).trans e) f0 f1 f3 f4 f5
    obtain ⟨o, e, c, d⟩ := id st'
    exact ⟨u, rfl, go_of (s := { s with heap := h' }) e c d (by decide) ⟨x, H, I1, ru, ⟨rfl, fun ys hy => by rw [I.tuple_inj hy hq]; exact hx⟩, st', fun b hb => (hf b hb).1⟩⟩
  done := by
    intro X hP hw hK hc i pins s σ H E I hf st hg
    subst hP hw hK
    obtain ⟨xs, hq, hx⟩ := hg
    obtain ⟨its, rv, p, hz⟩ := I.tuple hq
    obtain ⟨f0, f1, f2, f3, f4, f5⟩ := hf it (by simp)
    have hl := rv.length
    exact wpAny_pyNext_tuple_end (I.ok.hd hc) st (show s.heap.IsTuple a its.toArray from p) (by simp; omega) fun h' eb => ⟨rfl, I.turned (t' := s.toks) (fun b o hb e => eb b o hb e) f0 f1 f3 f4 f5⟩
  self := fun _ _ _ _ _ st h => wpAny_pyIter_tupleiter st h
theorem turn_range {P : Program} {w : World} {K : PySem.W.Frag} {tg : Expr} (it : Addr) (lo : Int) (n : Nat) : Turn P w K tg (Itr lo n) [it] it (fun i h => IsRangeIter h it (lo + (i : Nat) * 1) ((n : Int) - (i : Nat)) 1) where
  mem := by simp
  obj := fun i h st b hb => by
    have e : b = it := by simpa using hb
    subst e
    exact ⟨_, st, fun v z => by
      have z' : Data.fields _ = Data.cell v := z
      cases z'⟩
  keep := fun i h h' st k => k it (by simp) _ st
  item := by
    intro X hP hw hK hc i pins s σ H E I hf st hg
    subst hP hw hK
    obtain ⟨f0, f1, f2, f3, f4, f5⟩ := hf it (by simp)
    have W := Walks.range (prog := X.prog) (w := X.w) (I.ok.hd hc) it lo 1 n
    refine W.item i s _ _ hg st fun v h' tk hv st' kk => ?_
    obtain ⟨t, rfl⟩ := hv
    have I1 : Inv X pins σ H { s with heap := h', toks := tk } := I.turned (fun b o hb e => kk b o (by simpa using hb) e) f0 f1 f3 f4 f5
    refine ⟨_, rfl, go_of (s := { s with heap := h', toks := tk }) (n := "range_iterator") st' rfl rfl (by decide) ⟨.int (lo + i), H, I1, ⟨t, ?_⟩, ⟨rfl, rfl⟩, st', fun b hb => (hf b hb).1⟩⟩
    rw [Int.mul_one]
  done := by
    intro X hP hw hK hc i pins s σ H E I hf st hg
    subst hP hw hK
    obtain ⟨f0, f1, f2, f3, f4, f5⟩ := hf it (by simp)
    exact wpAny_pyNext_range_end (I.ok.hd hc) st (by have : n ≤ i := hg; omega) fun h' eb => ⟨rfl, I.turned (t' := s.toks) (fun b o hb e => eb b o hb e) f0 f1 f3 f4 f5⟩
  self := fun _ _ _ _ _ st h => wpAny_pyIter_rangeiter st h
end L2

namespace L2
open PySem PySem.Spec PyProof.Rows
section
variable {X : Cx} {tg : Expr}
def iList (K : PySem.W.Frag) (tl : TE) : TI := fun σ H R => tl σ H fun x H1 => ∃ a, x = .ref a ∧ (∃ xs, SqL K H1 a xs) ∧ R (Itl K a) H1
def iTup (K : PySem.W.Frag) (tl : TE) : TI := fun σ H R => tl σ H fun x H1 => ∃ a, x = .ref a ∧ (∃ xs, SqT K H1 a xs) ∧ R (Itt K a) H1
theorem pi_list {l : Expr} {tl : TE} (hl : PE X l tl) : PI X tg l (iList X.K tl) := by
  intro pins s σ H R I h
  refine thn (hl pins s σ H _ I h) fun v s1 ⟨x, H1, I1, r1, q1⟩ => ?_
  obtain ⟨a, e, ⟨xs, hq⟩, q⟩ := q1
  subst e
  cases r1
  obtain ⟨its, rv, p, hz⟩ := I1.list hq
  refine wpAny_pyIter_list p.isList ?_
  refine ⟨s1.heap.objs.size, [s1.heap.objs.size], _, _, H1, rfl, I1.kept (t' := s1.toks) fun b o e => Heap.get?_push_of_some _ e, turn_list a _, ⟨_, Heap.get?_push_size _ rfl, rfl, rfl⟩, fun b hb => ?_, q⟩
  have e : b = s1.heap.objs.size := by simpa using hb
  subst e
  exact I1.fpOk (Nat.le_refl _) (I1.hok.fresh (Nat.le_refl _))
theorem pi_tup {l : Expr} {tl : TE} (hl : PE X l tl) : PI X tg l (iTup X.K tl) := by
  intro pins s σ H R I h
  refine thn (hl pins s σ H _ I h) fun v s1 ⟨x, H1, I1, r1, q1⟩ => ?_
  obtain ⟨a, e, ⟨xs, hq⟩, q⟩ := q1
  subst e
  cases r1
  obtain ⟨its, rv, p, hz⟩ := I1.tuple hq
  refine wpAny_pyIter_tuple (show s1.heap.IsTuple a its.toArray from p) ?_
  refine ⟨s1.heap.objs.size, [s1.heap.objs.size], _, _, H1, rfl, I1.kept (t' := s1.toks) fun b o e => Heap.get?_push_of_some _ e, turn_tuple a _, ⟨_, Heap.get?_push_size _ rfl, rfl, rfl⟩, fun b hb => ?_, q⟩
  have e : b = s1.heap.objs.size := by simpa using hb
  subst e
  exact I1.fpOk (Nat.le_refl _) (I1.hok.fresh (Nat.le_refl _))
/-- a range object just made, walked -/
theorem range_it {pins : List (Addr × Obj)} {σ : St} {H : Hp} {s : Shared} {R : It → Hp → Prop} {E : Value → Shared → Prop} {lo hi : Int} {t u v : Tok} {tk : Nat} (I : Inv X pins σ H s) (h1 : -(2 ^ 62) ≤ lo) (h2 : lo < 2 ^ 62) (h3 : -(2 ^ 62) ≤ hi) (h4 : hi < 2 ^ 62)
    (q : R (Itr lo (hi - lo).toNat) H) : wpAny (model X.prog X.w) X.A (pyIter (.ref s.heap.objs.size)) (PIE X pins σ tg R) E { s with heap := s.heap.push { cls := .type "range", data := .fields #[.int lo t, .int hi u, .int 1 v] }, toks := tk } := by
  refine wpAny_pyIter_range (IsRange.new ..) (small_one h1 h2 h3 h4) ?_
  have I1 : Inv X pins σ H { s with heap := s.heap.push { cls := .type "range", data := .fields #[.int lo t, .int hi u, .int 1 v] }, toks := tk } := I.kept fun b o e => Heap.get?_push_of_some _ e
  refine ⟨(s.heap.push { cls := .type "range", data := .fields #[.int lo t, .int hi u, .int 1 v] }).objs.size, [(s.heap.push { cls := .type "range", data := .fields #[.int lo t, .int hi u, .int 1 v] }).objs.size], _, _, H, rfl,
    I1.kept (t' := tk) fun b o e => Heap.get?_push_of_some _ e, turn_range _ lo (hi - lo).toNat, ?_, fun b hb => ?_, q⟩
  · have e1 : lo + ((0 : Nat) : Int) * 1 = lo := by simp
    have e2 : (((hi - lo).toNat : Nat) : Int) - ((0 : Nat) : Int) = Builtin.Range.rangeSize lo hi 1 := by rw [rangeSize_one]; split <;> omega
    show IsRangeIter _ _ (lo + ((0 : Nat) : Int) * 1) ((((hi - lo).toNat : Nat) : Int) - ((0 : Nat) : Int)) 1
    rw [e1, e2]
    exact Heap.get?_push_size _ rfl
  · have e : b = (s.heap.push { cls := .type "range", data := .fields #[.int lo t, .int hi u, .int 1 v] }).objs.size := by simpa using hb
    subst e
    exact I1.fpOk (Nat.le_refl _) (I1.hok.fresh (Nat.le_refl _))
def iRng1 (ta : TA) : TI := fun σ H R => ta σ H fun vs H1 => ∃ j : Int, vs = [.int j] ∧ -(2 ^ 62) ≤ j ∧ j < 2 ^ 62 ∧ R (Itr 0 j.toNat) H1
theorem pi_range1 {a : Expr} {ta : TA} {p pos : Pos} (hg : Gl X "range") (hm : X.mg "range" = none) (ha : PA X [a] ta) (hs : starEach [a] X.env = [(false, eval a X.env)] := by rfl) : PI X tg (.Call (.Name "range" p) [a] [] pos) (iRng1 ta) := by
  intro pins s σ H R I h
  refine Call_ (ld_blt I hg hm boot_range (PyProof.Rows.callWith_type1 (thn (ha pos pins s σ H _ I h) fun us s1 ⟨vs, H1, I1, r1, q1⟩ => ?_) hs rfl))
  obtain ⟨j, e, q1, q2, q⟩ := q1
  subst e
  cases r1 with
  | cons r rr =>
    cases rr
    obtain ⟨t, rfl⟩ := r
    exact call_range_1 (range_it I1 (by omega) (by omega) q1 q2 (by simpa using q))

/-! ### for -/
/-- W: the invariant by the turn and a measure; N: what the body is to reach -/
def tFor (wi : TI) (g : TG) (tb : TS) : TS := fun D σ H => wi σ H fun J H1 => ∃ W : Nat → Nat → St → Hp → Prop, (∃ m, W 0 m σ H1) ∧ ∀ i m σ H, W i m σ H →
  (J.stop i H ∧ D.nx σ H) ∨ (J.go i H ∧ ∃ N : St → Hp → Prop, (∀ σ' H', N σ' H' → ∃ m', m' < m ∧ W (i + 1) m' σ' H') ∧ ∀ x H', J.yld i H x H' → g x σ H' fun σ2 H2 => tb { D with nx := N, ct := N, bk := D.nx } σ2 H2)
/-- the records at fp as they stand -/
def pinsAt (fp : List Addr) (h : Heap) : List (Addr × Obj) := fp.filterMap fun b => (h.get? b).map fun o => (b, o)
theorem mem_pinsAt {fp : List Addr} {h : Heap} {b : Addr} {o : Obj} (hb : b ∈ fp) (e : h.get? b = some o) : (b, o) ∈ pinsAt fp h := List.mem_filterMap.mpr ⟨b, hb, by rw [e]; rfl⟩
theorem of_pinsAt {fp : List Addr} {h : Heap} {p : Addr × Obj} (hp : p ∈ pinsAt fp h) : p.1 ∈ fp ∧ h.get? p.1 = some p.2 := by
  obtain ⟨b, hb, e⟩ := List.mem_filterMap.mp hp
  cases q : h.get? b with
  | none => rw [q] at e; cases e
  | some o =>
    rw [q] at e
    have e' : (b, o) = p := Option.some.inj e
    subst e'
    exact ⟨hb, q⟩
theorem Inv.pinned {pins : List (Addr × Obj)} {σ : St} {H : Hp} {s : Shared} {fp : List Addr} (I : Inv X pins σ H s) (hf : ∀ b ∈ fp, FpOk X pins H b) (ho : ∀ b ∈ fp, ∃ o, s.heap.get? b = some o ∧ ∀ v, o.data ≠ .cell v) : Inv X (pins ++ pinsAt fp s.heap) σ H s :=
  I.pins_of fun p hp => (List.mem_append.mp hp).elim (fun z => I.pin p (List.mem_append_right _ z)) fun z => by
    obtain ⟨hb, e⟩ := of_pinsAt z
    obtain ⟨f0, f1, f2, _⟩ := hf p.1 hb
    obtain ⟨o, e', d⟩ := ho p.1 hb
    rw [e] at e'; cases e'
    exact ⟨e, f0, f1, f2, d⟩
theorem Inv.unpinned {pins pl : List (Addr × Obj)} {σ : St} {H : Hp} {s : Shared} (I : Inv X (pins ++ pl) σ H s) : Inv X pins σ H s := I.pins_of fun p hp => I.pin p (List.mem_append_right _ (List.mem_append_left _ hp))
theorem ps_for {iter : Expr} {body : List Stmt} {wi : TI} {g : TG} {tb : TS} {pos : Pos} (hp : PassesOwn (model X.prog X.w) X.A X.env X.xe) (hc : X.calm = true) (hi : PI X tg iter wi) (hg : PG X tg g) (hb : PSs X body tb)
    (hs : ∀ x, foldedSetIterable iter X.env x = pure x := by intro _; rfl) : PS X (.For tg iter body [] pos) (tFor wi g tb) := by
  intro pins s σ H D I h
  refine wpAny_For (thn (hi pins s σ H _ I h) fun v s1 h1 => thn h1 fun itv s2 h2 => ?_) hs
  obtain ⟨it, fp, tn, J, H2, e, I2, T, st2, f2, W, ⟨m0, w0⟩, turn⟩ := h2
  subst e
  -- what stays true of the iterator's objects through the loop
  have stat : ∀ {H' : Hp}, (∀ b ∈ fp, H' b = none) → ∀ b ∈ fp, FpOk X pins H' b := fun hn b hb => ⟨hn b hb, (f2 b hb).2⟩
  refine codeAny_forLoop_any (fun n s' => ∃ i σ' H', Inv X pins σ' H' s' ∧ tn i s'.heap ∧ (∀ b ∈ fp, H' b = none) ∧ W i n σ' H') ?_ m0 ⟨0, σ, H2, I2, st2, fun b hb => (f2 b hb).1, w0⟩
  rintro n s3 ⟨i, σ3, H3, I3, st3, fr3, w3⟩
  rcases turn i n σ3 H3 w3 with ⟨stop, qn⟩ | ⟨go, N, hN, step⟩
  · refine wpAny_passesOwn hp (thn (T.done X rfl rfl rfl hc i pins s3 σ3 H3 X.xe I3 (stat fr3) st3 stop) fun r s4 ⟨hr, I4⟩ => ?_)
    subst hr
    exact wpAny_execs_nil ⟨σ3, H3, I4, qn⟩
  · refine wpAny_passesOwn hp (thn (T.item X rfl rfl rfl hc i pins s3 σ3 H3 X.xe I3 (stat fr3) st3 go) fun r s4 ⟨u, hr, h4⟩ => ?_)
    subst hr
    refine wpAny_passesOwn hp (thn h4 fun _ s5 ⟨x, H5, I5, r5, y5, st5, fr5⟩ => ?_)
    have I5' := I5.pinned (stat fr5) (T.obj _ _ st5)
    refine wpAny_passesOwn hp (thn (hg _ s5 σ3 H5 x u _ I5' r5 (step x H5 y5)) fun _ s6 ⟨σ6, H6, I6, q6⟩ => ?_)
    refine wpAny_passesOwn hp (thn (hb _ s6 σ6 H6 _ I6 q6) fun f s7 q7 => ?_)
    have again : ∀ {σ7 : St} {H7 : Hp}, Inv X (pins ++ pinsAt fp s5.heap) σ7 H7 s7 → N σ7 H7 → ∃ m, m < n ∧ ∃ i σ' H', Inv X pins σ' H' s7 ∧ tn i s7.heap ∧ (∀ b ∈ fp, H' b = none) ∧ W i m σ' H' := fun {σ7 H7} I7 n7 => by
      obtain ⟨m', hm, w7⟩ := hN σ7 H7 n7
      refine ⟨m', hm, i + 1, σ7, H7, I7.unpinned, T.keep _ _ _ st5 fun b hb o e => (I7.pin (b, o) (List.mem_append_right _ (List.mem_append_right _ (mem_pinsAt hb e)))).1, fun b hb => ?_, w7⟩
      obtain ⟨o, e, d⟩ := T.obj _ _ st5 b hb
      exact (I7.pin (b, o) (List.mem_append_right _ (List.mem_append_right _ (mem_pinsAt hb e)))).2.1
    cases f with
    | next => obtain ⟨σ7, H7, I7, n7⟩ := q7; exact again I7 n7
    | cont => obtain ⟨σ7, H7, I7, n7⟩ := q7; exact again I7 n7
    | brk => obtain ⟨σ7, H7, I7, q7⟩ := q7; exact ⟨σ7, H7, I7.unpinned, q7⟩
    | ret v => obtain ⟨x7, σ7, H7, I7, r7, q7⟩ := q7; exact ⟨x7, σ7, H7, I7.unpinned, r7, q7⟩
end

/-! ### the forms one uses -/
theorem for_range {lo : Int} {n : Nat} {g : TG} {tb : TS} {D : Ends} {σ : St} {H : Hp} (Pv : Nat → St → Hp → Prop) (h0 : Pv 0 σ H)
    (hs : ∀ i σ H, i < n → Pv i σ H → g (.int (lo + i)) σ H fun σ2 H2 => tb { D with nx := Pv (i + 1), ct := Pv (i + 1), bk := D.nx } σ2 H2) (hd : ∀ σ H, Pv n σ H → D.nx σ H) :
    ∃ W : Nat → Nat → St → Hp → Prop, (∃ m, W 0 m σ H) ∧ ∀ i m σ H, W i m σ H →
      ((Itr lo n).stop i H ∧ D.nx σ H) ∨ ((Itr lo n).go i H ∧ ∃ N : St → Hp → Prop, (∀ σ' H', N σ' H' → ∃ m', m' < m ∧ W (i + 1) m' σ' H') ∧ ∀ x H', (Itr lo n).yld i H x H' → g x σ H' fun σ2 H2 => tb { D with nx := N, ct := N, bk := D.nx } σ2 H2) := by
  refine ⟨fun i m σ H => m = n - i ∧ i ≤ n ∧ Pv i σ H, ⟨n, by simp, Nat.zero_le _, h0⟩, ?_⟩
  rintro i m σ H ⟨rfl, hi, p⟩
  by_cases hlt : i < n
  · refine .inr ⟨hlt, Pv (i + 1), fun σ' H' p' => ⟨n - (i + 1), by omega, rfl, hlt, p'⟩, fun x H' y => ?_⟩
    obtain ⟨e, y⟩ := y
    subst e y
    exact hs i σ _ hlt p
  · have e : i = n := by omega
    subst e
    exact .inl ⟨Nat.le_refl _, hd σ H p⟩
/-- while, by a word and a measure of the state -/
theorem while_by {c : TT} {tb : TS} {D : Ends} {σ : St} {H : Hp} (Pv : St → Hp → Prop) (μ : St → Hp → Nat) (h0 : Pv σ H)
    (hs : ∀ σ H, Pv σ H → c σ H fun b H1 => if b = true then tb { D with nx := fun σ' H' => Pv σ' H' ∧ μ σ' H' < μ σ H, ct := fun σ' H' => Pv σ' H' ∧ μ σ' H' < μ σ H, bk := D.nx } σ H1 else D.nx σ H1)
    (mono : ∀ σ H Q Q', (∀ b H1, Q b H1 → Q' b H1) → c σ H Q → c σ H Q') : tWhile c tb D σ H := by
  refine ⟨fun m σ H => m = μ σ H ∧ Pv σ H, ⟨_, rfl, h0⟩, ?_⟩
  rintro m σ H ⟨rfl, p⟩
  refine mono σ H _ _ (fun b H1 q => ?_) (hs σ H p)
  cases b with
  | true => exact ⟨_, fun σ' H' ⟨p', l⟩ => ⟨_, l, rfl, p'⟩, q⟩
  | false => exact q
end L2

namespace L2
open PySem PySem.Spec PyProof.Rows

abbrev R2 := V → V → Hp → VK → Prop
/-- a two-place operation on values: f is binaryOp op, inplaceOp op or compareOp op -/
def OpR (X : Cx) (f : Value → Value → Sem Value) (r : R2) : Prop :=
  ∀ (pins : List (Addr × Obj)) (s : Shared) (σ : St) (H : Hp) (x y : V) (v u : Value) (Q : VK), Inv X pins σ H s → RelV x v → RelV y u → r x y H Q →
    wpAny (model X.prog X.w) X.A (f v u) (EP X pins σ Q) X.xe s
/-- a one-place operation -/
def UnR (X : Cx) (f : Value → Sem Value) (r : V → Hp → VK → Prop) : Prop :=
  ∀ (pins : List (Addr × Obj)) (s : Shared) (σ : St) (H : Hp) (x : V) (v : Value) (Q : VK), Inv X pins σ H s → RelV x v → r x H Q →
    wpAny (model X.prog X.w) X.A (f v) (EP X pins σ Q) X.xe s
/-- a call of a value that is known (a builtin, a type) with values -/
def CallR (X : Cx) (f : Value) (r : List V → Hp → VK → Prop) : Prop :=
  ∀ (pins : List (Addr × Obj)) (s : Shared) (σ : St) (H : Hp) (xs : List V) (us : List Value) (Q : VK), Inv X pins σ H s → Vals xs us → r xs H Q →
    wpAny (model X.prog X.w) X.A (call f us) (EP X pins σ Q) X.xe s
/-- a value's truth -/
def TruR (X : Cx) (r : V → Hp → (Bool → Hp → Prop) → Prop) : Prop :=
  ∀ (pins : List (Addr × Obj)) (s : Shared) (σ : St) (H : Hp) (x : V) (v : Value) (Q : Bool → Hp → Prop), Inv X pins σ H s → RelV x v → r x H Q →
    wpAny (model X.prog X.w) X.A (truthy v) (TP X pins σ Q) X.xe s

def tOp (r : R2) (ta tb : TE) : TE := fun σ H Q => ta σ H fun x H1 => tb σ H1 fun y H2 => r x y H2 Q
def tUn (r : V → Hp → VK → Prop) (ta : TE) : TE := fun σ H Q => ta σ H fun x H1 => r x H1 Q
/-- ints in, under C, and a value out -/
def rI (C : Int → Int → Prop) (g : Int → Int → V) : R2 := fun x y H Q => ∃ i j, x = .int i ∧ y = .int j ∧ C i j ∧ Q (g i j) H
def rI0 (g : Int → Int → V) : R2 := fun x y H Q => ∃ i j, x = .int i ∧ y = .int j ∧ Q (g i j) H
def rU (g : Int → V) : V → Hp → VK → Prop := fun x H Q => ∃ i, x = .int i ∧ Q (g i) H

section
variable {X : Cx} {a b c : Expr} {ta tb tc : TE} {pos : Pos}

theorem binT (ha : PE X a ta) (hb : PE X b tb) {pins : List (Addr × Obj)} {s : Shared} {σ : St} {H : Hp} {R : V → V → Hp → Prop} (I : Inv X pins σ H s)
    (h : ta σ H fun x H1 => tb σ H1 fun y H2 => R x y H2) {Q : Value → Shared → Prop} {f : Value → Value → Sem Value}
    (hf : ∀ v u s2 x y H2, Inv X pins σ H2 s2 → RelV x v → RelV y u → R x y H2 → wpAny (model X.prog X.w) X.A (f v u) Q X.xe s2) :
    wpAny (model X.prog X.w) X.A (eval a X.env) (fun v s₁ => wpAny (model X.prog X.w) X.A (eval b X.env) (fun u s₂ => wpAny (model X.prog X.w) X.A (f v u) Q X.xe s₂) X.xe s₁) X.xe s := by
  refine thn (ha pins s σ H _ I h) fun v s1 ⟨x, H1, I1, r1, q1⟩ => ?_
  refine thn (hb pins s1 σ H1 _ I1 q1) fun u s2 ⟨y, H2, I2, r2, q2⟩ => ?_
  exact hf v u s2 x y H2 I2 r1 r2 q2

theorem pe_op {op : Operator} {r : R2} (ho : OpR X (binaryOp op) r) (ha : PE X a ta) (hb : PE X b tb) : PE X (.BinOp a op b pos) (tOp r ta tb) := by
  intro pins s σ H Q I h
  exact wpAny_BinOp (binT ha hb I h fun v u s2 x y H2 I2 rx ry q => ho pins s2 σ H2 x y v u Q I2 rx ry q)
theorem pe_un {op : UnaryOp} {r : V → Hp → VK → Prop} (ho : UnR X (unaryOp op) r) (ha : PE X a ta) : PE X (.UnaryOp op a pos) (tUn r ta) := by
  intro pins s σ H Q I h
  exact UnaryOp_ (thn (ha pins s σ H _ I h) fun v s1 ⟨x, H1, I1, r1, q1⟩ => ho pins s1 σ H1 x v Q I1 r1 q1)

/-! ### ints -/
theorem opI {f : Value → Value → Sem Value} {C : Int → Int → Prop} {g : Int → Int → Int}
    (rule : ∀ (i j : Int) (t u : Tok) (s : Shared) (Q : Value → Shared → Prop) (E : Value → Shared → Prop), C i j → Q (.int (g i j) s.toks) { s with toks := s.toks + 1 } → wpAny (model X.prog X.w) X.A (f (.int i t) (.int j u)) Q E s) :
    OpR X f (rI C fun i j => .int (g i j)) := by
  intro pins s σ H x y v u Q I rx ry h
  obtain ⟨i, j, rfl, rfl, hc, q⟩ := h
  obtain ⟨t, rfl⟩ := rx
  obtain ⟨t', rfl⟩ := ry
  exact rule i j t t' s _ _ hc ⟨.int (g i j), H, I.tok _, ⟨_, rfl⟩, q⟩
theorem opI0 {f : Value → Value → Sem Value} {g : Int → Int → Int}
    (rule : ∀ (i j : Int) (t u : Tok) (s : Shared) (Q : Value → Shared → Prop) (E : Value → Shared → Prop), Q (.int (g i j) s.toks) { s with toks := s.toks + 1 } → wpAny (model X.prog X.w) X.A (f (.int i t) (.int j u)) Q E s) :
    OpR X f (rI0 fun i j => .int (g i j)) := by
  intro pins s σ H x y v u Q I rx ry h
  obtain ⟨i, j, rfl, rfl, q⟩ := h
  obtain ⟨t, rfl⟩ := rx
  obtain ⟨t', rfl⟩ := ry
  exact rule i j t t' s _ _ ⟨.int (g i j), H, I.tok _, ⟨_, rfl⟩, q⟩
theorem opB0 {f : Value → Value → Sem Value} {g : Int → Int → Bool}
    (rule : ∀ (i j : Int) (t u : Tok) (s : Shared) (Q : Value → Shared → Prop) (E : Value → Shared → Prop), Q (.bool (g i j)) s → wpAny (model X.prog X.w) X.A (f (.int i t) (.int j u)) Q E s) :
    OpR X f (rI0 fun i j => .bl (g i j)) := by
  intro pins s σ H x y v u Q I rx ry h
  obtain ⟨i, j, rfl, rfl, q⟩ := h
  obtain ⟨t, rfl⟩ := rx
  obtain ⟨t', rfl⟩ := ry
  exact rule i j t t' s _ _ ⟨.bl (g i j), H, I, rfl, q⟩

def CPow (i j : Int) : Prop := 0 ≤ j ∧ j ≤ 1000000 ∧ i.natAbs < 2 ^ 64
def CMul (i j : Int) : Prop := (-(2 ^ 64) < i ∧ i < 2 ^ 64) ∨ (-(2 ^ 64) < j ∧ j < 2 ^ 64)
theorem CMul.ok {i j : Int} (h : CMul i j) : IntMulOk i j := by
  rcases h with ⟨h1, h2⟩ | ⟨h1, h2⟩
  · exact .of_left (intBits_le_64 h1 h2)
  · exact .of_right (intBits_le_64 h1 h2)

theorem op_add : OpR X (binaryOp .Add) (rI0 fun i j => .int (i + j)) := opI0 fun _ _ _ _ _ _ _ q => add_int q
theorem op_sub : OpR X (binaryOp .Sub) (rI0 fun i j => .int (i - j)) := opI0 fun _ _ _ _ _ _ _ q => sub_int q
theorem op_mul : OpR X (binaryOp .Mult) (rI CMul fun i j => .int (i * j)) := opI fun _ _ _ _ _ _ _ hc q => mul_int q hc.ok
/-- % by a positive divisor of any size -/
theorem op_mod : OpR X (binaryOp .Mod) (rI (fun _ j => 0 < j) fun i j => .int (i % j)) := opI fun i j _ _ _ _ _ hc q => by
  have h1 : (0 : Int) < j := hc
  exact mod_int' (by omega) (by rw [Int.fmod_eq_emod_of_nonneg i (by omega)]; exact q)
theorem op_pow : OpR X (binaryOp .Pow) (rI CPow fun i j => .int (i ^ j.toNat)) := opI fun _ _ _ _ _ _ _ hc q => pow_int_small hc.1 hc.2.1 hc.2.2 q


theorem unI {f : Value → Sem Value} {g : Int → Int}
    (rule : ∀ (i : Int) (t : Tok) (s : Shared) (Q : Value → Shared → Prop) (E : Value → Shared → Prop), Q (.int (g i) s.toks) { s with toks := s.toks + 1 } → wpAny (model X.prog X.w) X.A (f (.int i t)) Q E s) :
    UnR X f (rU fun i => .int (g i)) := by
  intro pins s σ H x v Q I rx h
  obtain ⟨i, rfl, q⟩ := h
  obtain ⟨t, rfl⟩ := rx
  exact rule i t s _ _ ⟨.int (g i), H, I.tok _, ⟨_, rfl⟩, q⟩
theorem un_neg : UnR X (unaryOp .USub) (rU fun i => .int (-i)) := unI fun _ _ _ _ _ q => neg_int q

/-! ### bools among ints: n += (a < b) -/
end

/-! ### comparisons -/
/-- the scalars that == tells apart as data does -/
def scal : V → V → Bool
  | .non, .non => true | .non, .int _ => true | .int _, .non => true | .non, .bl _ => true | .bl _, .non => true | .non, .str _ => true | .str _, .non => true
  | .int _, .int _ => true | .bl _, .bl _ => true | .str _, .str _ => true | .byt _, .byt _ => true
  | .int _, .str _ => true | .str _, .int _ => true | .bl _, .str _ => true | .str _, .bl _ => true
  | _, _ => false
def rEq : R2 := fun x y H Q => scal x y = true ∧ Q (.bl (decide (x = y))) H
def rNe : R2 := fun x y H Q => scal x y = true ∧ Q (.bl (!decide (x = y))) H

theorem dec_int {i j : Int} : decide (V.int i = V.int j) = (i == j) := by
  rw [Bool.eq_iff_iff]
  simp
theorem dec_bl {i j : Bool} : decide (V.bl i = V.bl j) = (i == j) := by
  rw [Bool.eq_iff_iff]
  simp
theorem dec_str {i j : Str} : decide (V.str i = V.str j) = (i == j) := by
  rw [Bool.eq_iff_iff]
  simp
theorem dec_byt {i j : Array UInt8} : decide (V.byt i = V.byt j) = (i.toList == j.toList) := by
  rw [Bool.eq_iff_iff]
  cases i
  cases j
  simp

section
variable {X : Cx} {a b c : Expr} {ta tb tc : TE} {pos : Pos}
theorem fin_bl {pins : List (Addr × Obj)} {σ : St} {H : Hp} {s : Shared} {Q : VK} {k k' : Bool} (I : Inv X pins σ H s) (q : Q (.bl k) H) (e : k = k') : EP X pins σ Q (.bool k') s := by
  subst e
  exact ⟨.bl k, H, I, rfl, q⟩
theorem op_eq : OpR X (compareOp .Eq) rEq := by
  intro pins s σ H x y v u Q I rx ry h
  obtain ⟨hs, q⟩ := h
  cases x with
  | non =>
    cases rx
    cases y with
    | non => cases ry; exact PySem.EqNone.eq_none_none (fin_bl I q (by simp))
    | bl j => cases ry; exact PySem.EqNone.eq_none_bool (fin_bl I q (by simp))
    | int j => obtain ⟨t', rfl⟩ := ry; exact PySem.EqNone.eq_none_int (fin_bl I q (by simp))
    | str j => obtain ⟨t', rfl⟩ := ry; exact PySem.EqNone.eq_none_str (fin_bl I q (by simp))
    | _ => exact absurd (show false = true from hs) Bool.false_ne_true
  | bl i =>
    cases rx
    cases y with
    | non => cases ry; exact PySem.EqNone.eq_bool_none (fin_bl I q (by simp))
    | bl j => cases ry; exact eq_bool (fin_bl I q dec_bl)
    | str j => obtain ⟨t', rfl⟩ := ry; exact PySem.EqMixed.eq_bool_str (fin_bl I q (by simp))
    | _ => exact absurd (show false = true from hs) Bool.false_ne_true
  | int i =>
    obtain ⟨t, rfl⟩ := rx
    cases y with
    | non => cases ry; exact PySem.EqNone.eq_int_none (fin_bl I q (by simp))
    | int j => obtain ⟨t', rfl⟩ := ry; exact eq_int (fin_bl I q dec_int)
    | str j => obtain ⟨t', rfl⟩ := ry; exact PySem.EqMixed.eq_int_str (fin_bl I q (by simp))
    | _ => exact absurd (show false = true from hs) Bool.false_ne_true
  | str i =>
    obtain ⟨t, rfl⟩ := rx
    cases y with
    | non => cases ry; exact PySem.EqNone.eq_str_none (fin_bl I q (by simp))
    | bl j => cases ry; exact PySem.EqMixed.eq_str_bool (fin_bl I q (by simp))
    | int j => obtain ⟨t', rfl⟩ := ry; exact PySem.EqMixed.eq_str_int (fin_bl I q (by simp))
    | str j => obtain ⟨t', rfl⟩ := ry; exact eq_str (fin_bl I q dec_str)
    | _ => exact absurd (show false = true from hs) Bool.false_ne_true
  | byt i =>
    obtain ⟨t, rfl⟩ := rx
    cases y with
    | byt j => obtain ⟨t', rfl⟩ := ry; exact PySem.W.eq_bytes (fin_bl I q dec_byt)
    | _ => exact absurd (show false = true from hs) Bool.false_ne_true
  | _ => cases y <;> exact absurd (show false = true from hs) Bool.false_ne_true
theorem op_ne : OpR X (compareOp .NotEq) rNe := by
  intro pins s σ H x y v u Q I rx ry h
  obtain ⟨hs, q⟩ := h
  cases x with
  | non =>
    cases rx
    cases y with
    | non => cases ry; exact PySem.EqNone.ne_none_none (fin_bl I q (by simp))
    | bl j => cases ry; exact PySem.EqNone.ne_none_bool (fin_bl I q (by simp))
    | int j => obtain ⟨t', rfl⟩ := ry; exact PySem.EqNone.ne_none_int (fin_bl I q (by simp))
    | str j => obtain ⟨t', rfl⟩ := ry; exact PySem.EqNone.ne_none_str (fin_bl I q (by simp))
    | _ => exact absurd (show false = true from hs) Bool.false_ne_true
  | bl i =>
    cases rx
    cases y with
    | non => cases ry; exact PySem.EqNone.ne_bool_none (fin_bl I q (by simp))
    | bl j => cases ry; exact ne_bool (fin_bl I q (congrArg not dec_bl))
    | str j => obtain ⟨t', rfl⟩ := ry; exact PySem.EqMixed.ne_bool_str (fin_bl I q (by simp))
    | _ => exact absurd (show false = true from hs) Bool.false_ne_true
  | int i =>
    obtain ⟨t, rfl⟩ := rx
    cases y with
    | non => cases ry; exact PySem.EqNone.ne_int_none (fin_bl I q (by simp))
    | int j => obtain ⟨t', rfl⟩ := ry; exact ne_int (fin_bl I q (congrArg not dec_int))
    | str j => obtain ⟨t', rfl⟩ := ry; exact PySem.EqMixed.ne_int_str (fin_bl I q (by simp))
    | _ => exact absurd (show false = true from hs) Bool.false_ne_true
  | str i =>
    obtain ⟨t, rfl⟩ := rx
    cases y with
    | non => cases ry; exact PySem.EqNone.ne_str_none (fin_bl I q (by simp))
    | bl j => cases ry; exact PySem.EqMixed.ne_str_bool (fin_bl I q (by simp))
    | int j => obtain ⟨t', rfl⟩ := ry; exact PySem.EqMixed.ne_str_int (fin_bl I q (by simp))
    | str j => obtain ⟨t', rfl⟩ := ry; exact ne_str (fin_bl I q (congrArg not dec_str))
    | _ => exact absurd (show false = true from hs) Bool.false_ne_true
  | byt i =>
    obtain ⟨t, rfl⟩ := rx
    cases y with
    | byt j => obtain ⟨t', rfl⟩ := ry; exact PySem.W.ne_bytes (fin_bl I q (congrArg not dec_byt))
    | _ => exact absurd (show false = true from hs) Bool.false_ne_true
  | _ => cases y <;> exact absurd (show false = true from hs) Bool.false_ne_true

theorem op_lt : OpR X (compareOp .Lt) (rI0 fun i j => .bl (decide (i < j))) := opB0 fun _ _ _ _ _ _ _ q => lt_int q
theorem op_le : OpR X (compareOp .LtE) (rI0 fun i j => .bl (decide (i ≤ j))) := opB0 fun _ _ _ _ _ _ _ q => le_int q
theorem op_gt : OpR X (compareOp .Gt) (rI0 fun i j => .bl (decide (j < i))) := opB0 fun _ _ _ _ _ _ _ q => gt_int q
theorem op_ge : OpR X (compareOp .GtE) (rI0 fun i j => .bl (decide (j ≤ i))) := opB0 fun _ _ _ _ _ _ _ q => ge_int q




theorem nomark (b : Expr) {op : CmpOp} (h : op ≠ .In := by decide) (h2 : op ≠ .NotIn := by decide) : behindInMarks op b = false := by
  have e1 : (op == CmpOp.In) = false := by cases op <;> first | rfl | exact absurd rfl h
  have e2 : (op == CmpOp.NotIn) = false := by cases op <;> first | rfl | exact absurd rfl h2
  cases b <;> simp [behindInMarks, e1, e2]
/-- a comparison as a value; hm: nomark b, or (for in, not in) by with_unfolding_all rfl -/
theorem pe_cmpR {op : CmpOp} {r : R2} (ho : OpR X (compareOp op) r) (ha : PE X a ta) (hb : PE X b tb) (hm : behindInMarks op b = false) : PE X (.Compare a [op] [b] pos) (tOp r ta tb) := by
  intro pins s σ H Q I h
  exact wpAny_Compare1 (binT ha hb I h fun v u s2 x y H2 I2 rx ry q => ho pins s2 σ H2 x y v u Q I2 rx ry q) hm
/-- a reading of a value as a test -/
def tTest (t : TE) : TT := fun σ H Q => t σ H fun x H' => ∃ k, x = .bl k ∧ Q k H'
theorem pt_cmpR {op : CmpOp} {r : R2} (ho : OpR X (compareOp op) r) (ha : PE X a ta) (hb : PE X b tb) (hm : behindInMarks op b = false) : PT X (.Compare a [op] [b] pos) (tTest (tOp r ta tb)) := by
  intro pins s σ H Q I h
  refine wpAny_isTrue_Compare1 (thn (ha pins s σ H _ I h) fun v s1 ⟨x, H1, I1, r1, q1⟩ => thn (hb pins s1 σ H1 _ I1 q1) fun u s2 ⟨y, H2, I2, r2, q2⟩ =>
    thn (ho pins s2 σ H2 x y v u _ I2 r1 r2 q2) fun c s3 ⟨z, H3, I3, r3, k, e, q3⟩ => ?_) hm
  subst e
  cases r3
  exact wpAny_truthy_bool ⟨H3, I3, q3⟩
/-- a op1 b op2 c -/
def tChain (r r' : R2) (ta tb tc : TE) : TE := fun σ H Q => ta σ H fun x H1 => tb σ H1 fun y H2 => r x y H2 fun z H3 => ∃ k, z = .bl k ∧
  (if k = true then tc σ H3 fun w' H4 => r' y w' H4 Q else Q (.bl false) H3)
theorem pt_chain {op op' : CmpOp} {r r' : R2} (ho : OpR X (compareOp op) r) (ho' : OpR X (compareOp op') r') (ha : PE X a ta) (hb : PE X b tb) (hc : PE X c tc)
    (hm : lastMarks [op, op'] [b, c] = false := by with_unfolding_all rfl) : PT X (.Compare a [op, op'] [b, c] pos) (tTest (tChain r r' ta tb tc)) := by
  intro pins s σ H Q I h
  refine isTrue_chain (thn (ha pins s σ H _ I h) fun v s1 ⟨x, H1, I1, r1, q1⟩ => test_link (thn (hb pins s1 σ H1 _ I1 q1) fun u s2 ⟨y, H2, I2, r2, q2⟩ =>
    thn (ho pins s2 σ H2 x y v u _ I2 r1 r2 q2) fun d s3 ⟨z, H3, I3, r3, k, e, q3⟩ => ?_)) hm
  subst e
  cases r3
  refine wpAny_truthy_bool ?_
  cases k with
  | false =>
    obtain ⟨k', e', q'⟩ := q3
    cases e'
    exact ite_ff ⟨H3, I3, q'⟩
  | true =>
    refine ite_tt (test_last (thn (hc pins s3 σ H3 _ I3 q3) fun w' s4 ⟨z', H4, I4, r4, q4⟩ => thn (ho' pins s4 σ H4 y z' u w' _ I4 r2 r4 q4) fun d' s5 ⟨z2, H5, I5, r5, k2, e2, q5⟩ => ?_))
    subst e2
    cases r5
    exact wpAny_truthy_bool ⟨H5, I5, q5⟩

/-! ### truth -/
/-- a value's truth by the abstract heap -/
def TruV (K : PySem.W.Frag) (x : V) (H : Hp) (k : Bool) : Prop :=
  match x with
  | .non => k = false
  | .bl b => k = b
  | .int i => k = (i != 0)
  | .str y => y.length ≤ sizeLine ∧ k = ((y.length : Int) != 0)
  | .byt y => y.size ≤ sizeLine ∧ k = ((y.size : Int) != 0)
  | .ref p => (∃ xs, SqL K H p xs ∧ k = !xs.isEmpty) ∨ (∃ xs, SqT K H p xs ∧ k = !xs.isEmpty) ∨ ∃ kvs, H p = some (.dK kvs) ∧ k = !kvs.isEmpty
  | _ => False
theorem isEmpty_kv {κ : Type} {kvs : List (κ × V)} {vs : List (κ × Value)} (r : KV kvs vs) : (!vs.isEmpty) = !kvs.isEmpty := by
  cases r <;> rfl
theorem isEmpty_of {xs : List V} {its : List Value} (r : Vals xs its) : (!its.toArray.isEmpty) = !xs.isEmpty := by
  cases r <;> simp
theorem line63 : (sizeLine : Nat) < 2 ^ 63 := by rw [sizeLine_eq]; decide
theorem tru_ok : TruR X (fun x H Q => ∃ k, TruV X.K x H k ∧ Q k H) := by
  intro pins s σ H x v Q I rx h
  obtain ⟨k, e, q⟩ := h
  have hl := line63
  have hs : sizeLine = 16777216 := sizeLine_eq
  cases x with
  | non =>
    cases rx
    have e' : k = false := e
    subst e'
    exact truthy_none ⟨H, I, q⟩
  | bl b =>
    cases rx
    have e' : k = b := e
    subst e'
    exact wpAny_truthy_bool ⟨H, I, q⟩
  | int i =>
    obtain ⟨t, rfl⟩ := rx
    have e' : k = (i != 0) := e
    subst e'
    exact PySem.P.truthy_int ⟨H, I, q⟩
  | str y =>
    obtain ⟨t, rfl⟩ := rx
    obtain ⟨hy, e'⟩ : y.length ≤ sizeLine ∧ k = ((y.length : Int) != 0) := e
    subst e'
    exact PySem.P.truthy_str (by omega) ⟨H, I.tok _, q⟩
  | byt y =>
    obtain ⟨t, rfl⟩ := rx
    obtain ⟨hy, e'⟩ : y.size ≤ sizeLine ∧ k = ((y.size : Int) != 0) := e
    subst e'
    exact PySem.W.truthy_bytes (by omega) ⟨H, I.tok _, q⟩
  | ref p =>
    cases rx
    have e' : (∃ xs, SqL X.K H p xs ∧ k = !xs.isEmpty) ∨ (∃ xs, SqT X.K H p xs ∧ k = !xs.isEmpty) ∨ ∃ kvs, H p = some (.dK kvs) ∧ k = !kvs.isEmpty := e
    rcases e' with ⟨xs, hx, e'⟩ | ⟨xs, hx, e'⟩ | ⟨kvs, hx, e'⟩
    · subst e'
      obtain ⟨its, r, pl, hz⟩ := I.list hx
      have hlen := r.length
      exact wpAny_truthy_list pl.isList (by simp only [List.size_toArray]; omega) ⟨H, I.tok _, by rw [isEmpty_of r]; exact q⟩
    · subst e'
      obtain ⟨its, r, pl, hz⟩ := I.tuple hx
      have hlen := r.length
      exact truthy_tuple pl (by simp only [List.size_toArray]; omega) ⟨H, I.tok _, by rw [isEmpty_of r]; exact q⟩
    · subst e'
      obtain ⟨hz, hS, vs, r, m⟩ : kvs.length ≤ sizeLine ∧ (p == sysModules) = false ∧ ∃ vs, KV kvs vs ∧ s.heap.DictOf (mixKind X.prog X.w) p vs := I.hok p _ hx
      have hlen : kvs.length = vs.length := Paired.length r
      exact wpAny_truthy_dict hS m (by omega) ⟨H, I.tok _, by rw [isEmpty_kv r]; exact q⟩
  | _ => exact (show False from e).elim
/-- any expression whose test is its value's truth (a name, a call, a subscript, a field ..: he by fun _ => rfl) -/
theorem pt_truth (ha : PE X a ta) (he : ∀ whole, isTrue a X.env whole = (do let v ← whole; standAt a.pos; holding [v] (truthy v))) :
    PT X a (fun σ H Q => ta σ H fun x H' => ∃ k, TruV X.K x H' k ∧ Q k H') := by
  intro pins s σ H Q I h
  exact isTrue_plain (thn (ha pins s σ H _ I h) fun v s1 ⟨x, H1, I1, r1, q1⟩ => tru_ok pins s1 σ H1 x v Q I1 r1 q1) (he _)

/-! ### strs and bytes -/
theorem op_add_str : OpR X (binaryOp .Add) (fun x y H Q => ∃ i j, x = .str i ∧ y = .str j ∧ i.length + j.length ≤ sizeLine ∧ Q (.str (i ++ j)) H) := by
  intro pins s σ H x y v u Q I rx ry h
  obtain ⟨i, j, rfl, rfl, hz, q⟩ := h
  obtain ⟨t, rfl⟩ := rx
  obtain ⟨t', rfl⟩ := ry
  exact add_str (fun t' tk => ⟨.str (i ++ j), H, I.tok _, ⟨_, rfl⟩, q⟩) hz


/-! ### scalar builtins, by CallR -/
theorem vals1 {x : V} {us : List Value} (r : Vals [x] us) : ∃ u, us = [u] ∧ RelV x u := by
  cases r with
  | cons r1 r2 => cases r2; exact ⟨_, rfl, r1⟩
theorem vals2 {x y : V} {us : List Value} (r : Vals [x, y] us) : ∃ u w', us = [u, w'] ∧ RelV x u ∧ RelV y w' := by
  cases r with
  | cons r1 r2 =>
    cases r2 with
    | cons r3 r4 => cases r4; exact ⟨_, _, rfl, r1, r3⟩
end
end L2

namespace L2
open PySem PySem.Spec PyProof.Rows

/-! ### an instance, its attributes a map -/
structure ObjM (h : Heap) (x dx C : Addr) (mA : Str → Option Value) : Prop where
  obj : h.get? x = some (PySem.W.instObj C dx)
  ns : h.Ns1 dx mA
  ne : dx ≠ x

theorem lookIn_ns {h : Heap} {dx : Addr} {mA : Str → Option Value} (n : h.Ns1 dx mA) : ∃ od, h.get? dx = some od ∧ ∀ name, PySem.W.lookIn name od = some (mA name) := by
  obtain ⟨o, es, ep, ho, hd, hk, _, hm⟩ := n
  refine ⟨o, ho, fun name => ?_⟩
  have e := hm name
  unfold nsFind findBy at e
  rw [← Array.find?_toList] at e
  unfold PySem.W.lookIn
  rw [hd]
  dsimp only
  split
  · rename_i y q
    rw [q] at e
    exact congrArg some e
  · rename_i q
    rw [q] at e
    have a : es.toList.any (·.refKey) = false := by
      rw [List.any_eq_false]
      intro y hy
      obtain ⟨z, t, hkey⟩ := hk y (Array.mem_toList_iff.mp hy)
      simp [DictEntry.refKey, hkey]
    have a' : ¬ es.toList.any (·.refKey) = true := by rw [a]; exact Bool.false_ne_true
    rw [if_neg a']
    exact congrArg some e

theorem ObjM.look {h : Heap} {x dx C : Addr} {mA : Str → Option Value} (I : ObjM h x dx C mA) : ∃ od, PySem.W.InstAt h x (PySem.W.instObj C dx) C (some od) ∧ ∀ name, PySem.W.lookIn name od = some (mA name) :=
  let ⟨od, ho, hl⟩ := lookIn_ns I.ns
  ⟨od, ⟨I.obj, rfl, rfl, ho⟩, hl⟩

section
variable {prog : Program} {w : World} {A : Around} {E : Value → Shared → Prop} {s : Shared} {K : PySem.W.Frag} {x dx C f : Addr} {mA : Str → Option Value} {name : Str} {v : Value}





end

/-! ### the attributes as a list of pairs -/

theorem RelO.some_of {v : V} {o : Option Value} (r : RelO (some v) o) : ∃ u, o = some u ∧ RelV v u := by
  cases o with
  | none => exact (show False from r).elim
  | some u => exact ⟨u, rfl, r⟩
theorem RelO.none_of {o : Option Value} (r : RelO none o) : o = none := by
  cases o with
  | none => rfl
  | some u => exact (show False from r).elim

section
variable {P : Program} {w : World} {H H' : Hp} {h h' : Heap} {a C dx : Addr} {fs fs' : List (Str × V)}
theorem ins_get (hok : HOk P w H h) (e : H a = some (.ins C dx fs)) : ∃ mA, ObjM h a dx C mA ∧ (∀ f, RelO (fs.lookup f) (mA f)) ∧ PySem.Within mA (fs.map (·.1)) ∧ fs.length ≤ 1000 ∧ H dx = some (.own a) := by
  obtain ⟨d, z, ne, ob, mA, n, r, q⟩ := (show ObjOk P w H h a (.ins C dx fs) from hok a _ e)
  exact ⟨mA, ⟨ob, n, ne⟩, r, q, z, d⟩
end

/-! ### what of the text a class must have -/
structure Cls (K : PySem.W.Frag) (C : Addr) : Prop where
  pg : PySem.W.plainGet K C Str.empty = true
  hd : PySem.W.hasDictIn K C = true
  po : PySem.W.plainOver K C = true
  sa : PySem.W.findIn K (.ref C) "__setattr__" = some (some (.builtin "object.__setattr__"))
theorem Cls.get {K : PySem.W.Frag} {C : Addr} (c : Cls K C) (f : Str) : PySem.W.plainGet K C f = true := c.pg

section
variable {X : Cx} {pins : List (Addr × Obj)} {σ : St} {H : Hp} {s : Shared} {a C dx : Addr} {fs : List (Str × V)} {f : Str} {v : V} {A : Around} {E : Value → Shared → Prop}






end

/-! ### readings and rules -/

section
variable {X : Cx} {o e value : Expr} {f : Str} {pos pos' tpos : Pos} {ta tv : TE}

end

/-! ### isinstance -/
section
variable {X : Cx} {pins : List (Addr × Obj)} {σ : St} {H : Hp} {s : Shared} {A : Around} {E : Value → Shared → Prop} {Q : Value → Shared → Prop} {c : Value} {b : Bool}
/-- the type of a value, as the fragment's deciders take it; for an instance its class -/
inductive TyOf (K : PySem.W.Frag) (H : Hp) : V → Value → Prop where
  | non : TyOf K H .non (.type "NoneType")
  | bl (x : Bool) : TyOf K H (.bl x) (.type "bool")
  | int (i : Int) : TyOf K H (.int i) (.type "int")
  | str (x : Str) : TyOf K H (.str x) (.type "str")
  | flt (x : UInt64) : TyOf K H (.flt x) (.type "float")
  | lst {a : Addr} {xs : List V} (e : H a = some (.lst xs)) : TyOf K H (.ref a) (.type "list")
  | frz {a : Addr} {o : Obj} {xs : List V} (e : H a = some (.frz o (.lst xs))) : TyOf K H (.ref a) (.type "list")
  | tup {a : Addr} {xs : List V} (e : H a = some (.tup xs)) : TyOf K H (.ref a) (.type "tuple")
  | dK {a : Addr} {kvs : List (Key × V)} (e : H a = some (.dK kvs)) : TyOf K H (.ref a) (.type "dict")
  | dT {a : Addr} {kvs : List (List Key × V)} (e : H a = some (.dT kvs)) : TyOf K H (.ref a) (.type "dict")
  | ins {a C dx : Addr} {fs : List (Str × V)} (e : H a = some (.ins C dx fs)) (cl : Cls K C) (ha : PySem.W.findIn K (.ref C) "__class__" = some (some (.builtin "object.__class__")))
      (hn : PySem.W.specialIn K (.builtin "object.__class__") "__get__" = some (some (.builtin "getset_descriptor.__get__"))) (htk : PySem.W.takesIn K (.builtin "object.__class__") = some true)
      (hm : PySem.W.mroIn K C (.type "object") = some true) : TyOf K H (.ref a) (.ref C)
/-- isinstance(x, c) for one class c, a built-in or an own one: kitOne's answer -/
theorem isinst_ok {x : V} {u t : Value} (I : Inv X pins σ H s) (rx : RelV x u) (ty : TyOf X.K H x t) (e : PySem.W.kitOne X.K t c = some b) (h : ∀ tk, Q (.bool b) { s with toks := tk }) :
    wpAny (model X.prog X.w) A (call (.builtin "isinstance") [u, c]) Q E s := by
  cases ty with
  | non => cases (show u = Value.none from rx); exact PySem.W.kia_one PySem.W.kitx_none I.kIn True.intro e (fun z => nomatch z) h
  | bl y => cases (show u = Value.bool y from rx); exact PySem.W.kia_one PySem.W.kitx_bool I.kIn True.intro e (fun z => nomatch z) h
  | int i => obtain ⟨t, q⟩ := (show ∃ t, u = Value.int i t from rx); cases q; exact PySem.W.kia_one PySem.W.kitx_int I.kIn True.intro e (fun z => nomatch z) h
  | str y => obtain ⟨t, q⟩ := (show ∃ t, u = Value.str y t from rx); cases q; exact PySem.W.kia_one PySem.W.kitx_str I.kIn True.intro e (fun z => nomatch z) h
  | flt y => obtain ⟨t, q⟩ := (show ∃ t, u = Value.float y t from rx); cases q; exact PySem.W.kia_one PySem.W.kitx_float I.kIn True.intro e (fun z => nomatch z) h
  | @lst a xs ea =>
    cases (show u = Value.ref a from rx)
    obtain ⟨_, _, n, _, h1⟩ := (show ObjOk X.prog X.w H s.heap a (.lst xs) from I.hok a _ ea)
    exact PySem.W.kia_one PySem.W.kitx_list I.kIn ⟨_, h1, rfl⟩ e (fun z => nomatch z) h
  | @frz a ob xs ea =>
    cases (show u = Value.ref a from rx)
    obtain ⟨_, _, _, n, _, h1⟩ := (show ObjOk X.prog X.w H s.heap a (.frz ob (.lst xs)) from I.hok a _ ea)
    exact PySem.W.kia_one PySem.W.kitx_list I.kIn ⟨_, h1, rfl⟩ e (fun z => nomatch z) h
  | @tup a xs ea =>
    cases (show u = Value.ref a from rx)
    obtain ⟨_, _, _, p⟩ := (show ObjOk X.prog X.w H s.heap a (.tup xs) from I.hok a _ ea)
    obtain ⟨o, h1, h2, _⟩ := p
    exact PySem.W.kia_one PySem.W.kitx_tuple I.kIn ⟨o, h1, h2⟩ e (fun z => nomatch z) h
  | @dK a kvs ea =>
    cases (show u = Value.ref a from rx)
    obtain ⟨_, _, vs, _, p⟩ := (show ObjOk X.prog X.w H s.heap a (.dK kvs) from I.hok a _ ea)
    obtain ⟨o, es, ep, h1, h2, _⟩ := p
    exact PySem.W.kia_one PySem.W.kitx_dict I.kIn ⟨o, h1, h2.1⟩ e (fun z => nomatch z) h
  | @dT a kvs ea =>
    cases (show u = Value.ref a from rx)
    obtain ⟨_, _, xs, _, o, es, ep, h1, h2, _⟩ := (show ObjOk X.prog X.w H s.heap a (.dT kvs) from I.hok a _ ea)
    exact PySem.W.kia_one PySem.W.kitx_dict I.kIn ⟨o, h1, h2.1⟩ e (fun z => nomatch z) h
  | @ins a C dx fs ea cl ha hn htk hm =>
    cases (show u = Value.ref a from rx)
    obtain ⟨mA, O, _⟩ := ins_get I.hok ea
    obtain ⟨od, J, _⟩ := O.look
    exact PySem.W.kia_one (PySem.W.kitx_own (cl.get _) cl.hd ha hn htk hm) I.kIn J e (fun z => nomatch z) h
end
end L2

namespace L2
open PySem PySem.Spec PyProof.Rows

/-! ### room -/
structure Room (k : Nat) (A : Around) : Prop where
  hd : A.handled = none
  gd : A.guards = some []
  dp : A.depth + 3 * k + 5 < recursionLimit
  un : A.units + 16 * k + 200 < cLine
theorem Room.mono {j k : Nat} {A : Around} (r : Room k A) (h : j ≤ k) : Room j A := ⟨r.hd, r.gd, by have := r.dp; omega, by have := r.un; omega⟩
theorem Room.deeper {k : Nat} {A : Around} (r : Room (k + 1) A) (env : Env) : Room k (A.deeper env) :=
  ⟨r.hd, r.gd, by have := r.dp; show A.depth + 1 + 3 * k + 5 < _; omega, by have := r.un; show A.units + 3 + 16 * k + 200 < _; omega⟩
theorem Room.depth {k : Nat} {A : Around} (r : Room k A) : A.depth < recursionLimit := by have := r.dp; omega
theorem Room.units {k : Nat} {A : Around} (r : Room k A) : A.units + 64 < cLine := by have := r.un; omega
theorem Room.units0 {k : Nat} {A : Around} (r : Room k A) : A.units < cLine := by have := r.un; omega

/-! ### argument lists and displays -/
def tNil : TA := fun _ H Q => Q [] H
def tCons (ta : TE) (tr : TA) : TA := fun σ H Q => ta σ H fun x H1 => tr σ H1 fun xs H2 => Q (x :: xs) H2
section
variable {X : Cx} {e : Expr} {es : List Expr} {te : TE} {t : TA} {pos : Pos}
theorem pa_nil : PA X [] tNil := fun _ _ _ _ H Q I h => Calls.spliced_nil ⟨[], H, I, .nil, h⟩
theorem pa_cons (ha : PE X e te) (hr : PA X es t) (hs : starEach (e :: es) X.env = (false, eval e X.env) :: starEach es X.env := by rfl) : PA X (e :: es) (tCons te t) := by
  intro pos pins s σ H Q I h
  rw [hs]
  show wpAny _ _ (spliced ((false, eval e X.env) :: backTo pos (starEach es X.env))) _ _ s
  refine Calls.spliced_cons (thn (ha pins s σ H _ I h) fun u s1 ⟨x, H1, I1, r1, q1⟩ => ?_)
  exact thn (hr pos pins s1 σ H1 _ I1 q1) fun us s2 ⟨xs, H2, I2, r2, q2⟩ => ⟨x :: xs, H2, I2, .cons r1 r2, q2⟩

/-- a tuple, a list of written items -/
def tTup (t : TA) : TE := fun σ H Q => t σ H fun xs H1 => xs.length ≤ sizeLine ∧ ∀ p, H1 p = none → Q (.ref p) (upd H1 p (.tup xs))
def tLst (t : TA) : TE := fun σ H Q => t σ H fun xs H1 => xs.length ≤ sizeLine ∧ ∀ p, H1 p = none → Q (.ref p) (upd H1 p (.lst xs))
theorem pe_tup {x1} (h : PA X es t) : PE X (.Tuple es x1 pos) (tTup t) := by
  intro pins s σ H Q I hq
  refine wpAny_Tuple_spliced (thn (h pos pins s σ H _ I hq) fun us s1 ⟨xs, H1, I1, r, z, q⟩ => ⟨by rw [← r.length]; exact z, ?_⟩)
  have hf : H1 s1.heap.objs.size = none := I1.hok.fresh (Nat.le_refl _)
  refine ⟨.ref s1.heap.objs.size, upd H1 s1.heap.objs.size (.tup xs), I1.laid (t' := s1.toks) (fun b u e => Heap.get?_push_of_some _ e) (Nat.le_refl _) ?_, rfl, q _ hf⟩
  exact ⟨z, us, r, ⟨_, Heap.get?_push_size _ rfl, rfl, _, rfl⟩⟩
theorem pe_lst (h : PA X es t) : PE X (.List es pos) (tLst t) := by
  intro pins s σ H Q I hq
  refine wpAny_List_spliced (thn (h pos pins s σ H _ I hq) fun us s1 ⟨xs, H1, I1, r, z, q⟩ => ⟨by rw [← r.length]; exact z, ?_⟩)
  have hf : H1 s1.heap.objs.size = none := I1.hok.fresh (Nat.le_refl _)
  refine ⟨.ref s1.heap.objs.size, upd H1 s1.heap.objs.size (.lst xs), I1.laid (t' := s1.toks) (fun b u e => Heap.get?_push_of_some _ e) (Nat.le_refl _) ?_, rfl, q _ hf⟩
  exact ⟨z, us, 0, r, Heap.get?_push_size _ rfl⟩
end

/-! ### what a def promises -/
/-- a def's promise: the bound arguments in the parameters' order, the heap, the wanted end, the wanted exception -/
abbrev Sp := List V → Hp → VK → XK → Prop
/-- how an exception lies behind a call (file 08 gives it): the callers' frames, abstract heap and state ahead of the call, the wish, the exception, the state -/
abbrev CXT := List Env → Hp → Shared → XK → Value → Shared → Prop

/-- the state at a call -/
structure Env0 (P : Program) (w : World) (K : PySem.W.Frag) (mg : Str → Option Value) (base : Heap) (A : Around) (outer : List Env) (s : Shared) (H : Hp) : Prop where
  frames : A.frames = some outer
  mod : Mod K mg base
  bs : ∀ b o, base.get? b = some o → s.heap.get? b = some o ∧ H b = none
  bsz : base.objs.size ≤ s.heap.objs.size
  funs : s.heap.FunFrames base outer
  frf : ∀ b ∈ frs outer, H b = none
  hok : HOk P w H s.heap
  bare : AllBare s.gens
/-- a call's end -/
def CE (outer : List Env) (P : Program) (w : World) (H : Hp) (s : Shared) (Q : VK) (u : Value) (s' : Shared) : Prop :=
  ∃ v H', s'.os = s.os ∧ AllBare s'.gens ∧ Un (frs outer) [] H H' s.heap s'.heap ∧ HOk P w H' s'.heap ∧ RelV v u ∧ Q v H'
def CR (CX : CXT) (outer : List Env) (P : Program) (w : World) (H : Hp) (s : Shared) (Q : VK) (E : XK) (r : Result) (s' : Shared) : Prop :=
  match r with
  | .ok (.ret u) => CE outer P w H s Q u s'
  | .ok _ => False
  | .error e => CX outer H s E e s'
structure FnOk (P : Program) (w : World) (K : PySem.W.Frag) (mg : Str → Option Value) (base : Heap) (CX : CXT) (k : Nat) (f : Addr) (fd : FuncData) (ps : List Str) (sp : Sp) : Prop where
  len : ∀ vs H Q E, sp vs H Q E → vs.length = ps.length
  run : ∀ (A : Around) (outer : List Env) (s : Shared) (H : Hp) (args : Args) (us : List Value) (vs : List V) (Q : VK) (E : XK), Room k A → Env0 P w K mg base A outer s H → BindsTo s fd args (ps.zip us) → Vals vs us → sp vs H Q E →
    codeAny (model P w) A (.call (.ref f) args) (CR CX outer P w H s Q E) s


section
variable {X : Cx} {pins : List (Addr × Obj)} {σ : St} {H : Hp} {s s' : Shared}
/-- from a body: what a callee wants -/
theorem Inv.env0 (I : Inv X pins σ H s) : Env0 X.prog X.w X.K X.mg X.base X.A X.stack s H :=
  ⟨I.ok.frames, I.ok.mod, I.bs, Nat.le_trans I.ok.bsz I.sz, I.stack, I.stkFree, I.hok, I.bare⟩
/-- behind a call -/
theorem Inv.after {Q : VK} {u : Value} (I : Inv X pins σ H s) (h : CE X.stack X.prog X.w H s Q u s') : EP X pins σ Q u s' := by
  obtain ⟨v, H', os, bare, un, hok, r, q⟩ := h
  obtain ⟨hh, g, d, t, os'⟩ := s'
  obtain rfl : os' = s.os := os
  exact ⟨v, H', I.call (h' := hh) (g' := g) (d' := d) (t' := t) (ch := []) un hok bare (fun b z => absurd z (by simp)), r, q⟩
end

/-! ### calls -/
/-- f(..): the written arguments, then the defaults dvs; E: what is wanted of an exception -/
def tCall (sp : Sp) (dvs : List V) (E : XK) (t : TA) : TE := fun σ H Q => t σ H fun vs H1 => sp (vs ++ dvs) H1 Q E

/-- how the parameters are bound: us the positional arguments, kw the keywords' values by name, ds the defaults that fill up -/
def Binds (K : PySem.W.Frag) (fd : FuncData) (ps : List Str) (ds : List Value) : Prop :=
  ∀ (s : Shared) (us : List Value), K.In s.heap → (us ++ ds).length = ps.length → BindsTo s fd ⟨us, []⟩ (ps.zip (us ++ ds))
/-- every parameter is given -/
theorem Binds.all {K : PySem.W.Frag} {fd : FuncData} {ps : List Str} (h : ∀ us : List Value, us.length = ps.length → bindArgs fd ⟨us, []⟩ = pure (ps.zip us)) : Binds K fd ps [] := fun s us _ hl => by
  rw [List.append_nil] at hl ⊢
  exact .of_eq (h us hl)

/-- an exception of a callee reaches what this body wants of exceptions -/
def Passes (CX : CXT) (X : Cx) (E : XK) : Prop := ∀ (pins : List (Addr × Obj)) (σ : St) (H : Hp) (s : Shared) (e : Value) (s' : Shared), Inv X pins σ H s → CX X.stack H s E e s' → X.xe e s'

section
variable {X : Cx} {CX : CXT} {k : Nat} {f C : Addr} {fd : FuncData} {ps : List Str} {sp : Sp} {dvs : List V} {ds : List Value} {E : XK} {x m : Str} {p pos apos : Pos} {e o : Expr} {es : List Expr} {ta : TE} {t : TA}

/-- the callee runs -/
theorem run_fn {pins : List (Addr × Obj)} {σ : St} {H : Hp} {s : Shared} {Q : VK} {us : List Value} {vs : List V} (F : FnOk X.prog X.w X.K X.mg X.base CX k f fd ps sp) (hr : Room k X.A) (hb : Binds X.K fd ps ds) (hd : Vals dvs ds) (hx : Passes CX X E)
    (I : Inv X pins σ H s) (r : Vals vs us) (h : sp (vs ++ dvs) H Q E) : wpAny (model X.prog X.w) X.A (call (.ref f) us) (EP X pins σ Q) X.xe s := by
  have r2 : Vals (vs ++ dvs) (us ++ ds) := r.append hd
  have hl : (us ++ ds).length = ps.length := by rw [← r2.length]; exact F.len _ _ _ _ h
  refine wpAny_call (codeAny_mono (F.run X.A X.stack s H ⟨us, []⟩ (us ++ ds) (vs ++ dvs) Q E hr I.env0 (hb s us I.kIn hl) r2 h) fun r s' hq => ?_)
  cases r with
  | error e => exact hx pins σ H s e s' I hq
  | ok fl =>
    cases fl with
    | ret u => exact I.after hq
    | next => exact False.elim hq
    | brk => exact False.elim hq
    | cont => exact False.elim hq

theorem pe_call (F : FnOk X.prog X.w X.K X.mg X.base CX k f fd ps sp) (hr : Room k X.A) (hg : Gl X x) (hm : X.mg x = some (.ref f)) (hk : PySem.W.keepIn X.K (.ref f) = true) (hb : Binds X.K fd ps ds) (hd : Vals dvs ds) (hx : Passes CX X E)
    (ha : PA X (e :: es) t) (hdb : (x == ("__debug__" : Str)) = false := by decide) (he : starEach (e :: es) X.env = (false, eval e X.env) :: starEach es X.env := by rfl) (hpl : (backTo pos (starEach es X.env)).any (·.1) = false := by rfl) :
    PE X (.Call (.Name x p) (e :: es) [] pos) (tCall sp dvs E t) := by
  intro pins s σ H Q I h
  refine wpAny_Call_Name_kw (ld_glob I hg hm ?_ hdb)
  refine PySem.W.callWith_K (h₀ := X.base) I.ok.mod.kin hk (thn (ha pos pins s σ H _ I h) fun us s1 ⟨vs, H1, I1, r, q⟩ => ⟨I1.kIn, ?_⟩) he hpl
  exact run_fn F hr hb hd hx I1 r q



end

/-! ### keywords -/
section
variable {X : Cx} {CX : CXT} {k : Nat} {f C : Addr} {fd : FuncData} {ps ks : List Str} {sp : Sp} {E : XK} {x m : Str} {p pos apos kpos : Pos} {e o : Expr} {es : List Expr} {kws : List Keyword} {te ta : TE} {t tk : TA} {nm : Option Str}

variable {g : List Value → List Value → List Value} {gV : List V → List V → List V}
end

/-! ### a def's body keeps its promise -/
/-- names: the parameters first -/
structure FnScope (N P : List Str) (sc : Scope) : Prop where
  kind : sc.kind = .function
  co : sc.isCoroutine = false
  gen : sc.isGenerator = false
  nd : N.Nodup
  pre : N.take P.length = P
  par : ∀ x ∈ P, sc.names.lookup x = some .local ∨ sc.names.lookup x = some .cell
  nofree : ∀ y ∈ sc.names, y.2 ≠ .free

theorem bindL_out {kindOf : Str → Option NameKind} {x : Str} : ∀ {binds : List (Str × Value)} {m : Str → Option Value}, (∀ v, (x, v) ∉ binds) → bindL kindOf binds m x = m x
  | [], _, _ => rfl
  | (n, v) :: r, m, h => by
    unfold bindL
    rw [bindL_out fun w hw => h w (List.mem_cons_of_mem _ hw)]
    split
    · have : x ≠ n := by rintro rfl; exact h v List.mem_cons_self
      simp [this]
    · rfl
theorem bindC_out {kindOf : Str → Option NameKind} {x : Str} : ∀ {binds : List (Str × Value)} {m : Str → Option Value}, (∀ v, (x, v) ∉ binds) → bindC kindOf binds m x = m x
  | [], _, _ => rfl
  | (n, v) :: r, m, h => by
    unfold bindC
    rw [bindC_out fun w hw => h w (List.mem_cons_of_mem _ hw)]
    split
    · rfl
    · have : x ≠ n := by rintro rfl; exact h v List.mem_cons_self
      simp [this]
theorem bindL_get {kindOf : Str → Option NameKind} {x : Str} {v : Value} : ∀ {P : List Str} {vs : List Value} {i : Nat} {m : Str → Option Value}, P.Nodup → P[i]? = some x → vs[i]? = some v → kindOf x = some .local →
    bindL kindOf (P.zip vs) m x = some v
  | [], _, _, _, _, h, _, _ => by simp at h
  | _ :: _, [], _, _, _, _, h, _ => by simp at h
  | p :: P, w :: vs, 0, m, nd, h1, h2, hk => by
    simp at h1 h2; subst h1; subst h2
    show bindL kindOf ((p, w) :: P.zip vs) m p = _
    unfold bindL
    rw [bindL_out fun v hv => (List.nodup_cons.mp nd).1 (List.of_mem_zip hv).1, if_pos hk]
    simp
  | p :: P, w :: vs, i + 1, m, nd, h1, h2, hk => by
    show bindL kindOf ((p, w) :: P.zip vs) m x = _
    unfold bindL
    exact bindL_get (i := i) (List.nodup_cons.mp nd).2 (by simpa using h1) (by simpa using h2) hk
theorem bindC_get {kindOf : Str → Option NameKind} {x : Str} {v : Value} : ∀ {P : List Str} {vs : List Value} {i : Nat} {m : Str → Option Value}, P.Nodup → P[i]? = some x → vs[i]? = some v → kindOf x ≠ some .local →
    bindC kindOf (P.zip vs) m x = some v
  | [], _, _, _, _, h, _, _ => by simp at h
  | _ :: _, [], _, _, _, _, h, _ => by simp at h
  | p :: P, w :: vs, 0, m, nd, h1, h2, hk => by
    simp at h1 h2; subst h1; subst h2
    show bindC kindOf ((p, w) :: P.zip vs) m p = _
    unfold bindC
    rw [bindC_out fun v hv => (List.nodup_cons.mp nd).1 (List.of_mem_zip hv).1, if_neg hk]
    simp
  | p :: P, w :: vs, i + 1, m, nd, h1, h2, hk => by
    show bindC kindOf ((p, w) :: P.zip vs) m x = _
    unfold bindC
    exact bindC_get (i := i) (List.nodup_cons.mp nd).2 (by simpa using h1) (by simpa using h2) hk

/-- the names' values at the entry -/
def start (N : List Str) (vs : List V) : St := vs.map some ++ List.replicate (N.length - vs.length) none

/-- the context of a def's body, at its entry; an exception leaves the frame, then lies as CX says -/
def cxOf (CX : CXT) (P : Program) (w : World) (K : PySem.W.Frag) (mg : Str → Option Value) (base : Heap) (N : List Str) (qual : Str) (scope : Scope) (f : Addr) (cd : Value) (A : Around) (outer : List Env) (s : Shared) (H : Hp) (E : XK) : Cx where
  prog := P
  w := w
  K := K
  mg := mg
  base := base
  A := A.deeper (envOfC qual scope s.heap.objs.size f cd)
  N := N
  s₀ := s
  H₀ := H
  env := envOfC qual scope s.heap.objs.size f cd
  outer := outer
  stack := envOfC qual scope s.heap.objs.size f cd :: outer
  ex := []
  calm := true
  fn := fun _ => true
  pn := []
  xe := fun e s' => wpAny (model P w) (A.deeper (envOfC qual scope s.heap.objs.size f cd)) (leaving (envOfC qual scope s.heap.objs.size f cd) e) (fun _ s'' => CX outer H s E e s'') (fun e' s'' => CX outer H s E e' s'') s'

theorem cell_has {sc : Scope} {n : Nat} {x : Str} (h : sc.names.lookup x = some .cell) : ∃ c, (cellsFrom n sc.names []).lookup x = some c := by
  have q := PySem.W.cellsFrom_some sc.names n [] (.inl h)
  exact Option.isSome_iff_exists.mp q

theorem inv_start {CX : CXT} {P : Program} {w : World} {K : PySem.W.Frag} {mg : Str → Option Value} {base : Heap} {N ps : List Str} {qual : Str} {scope : Scope} {f : Addr} {cd : Value} {A : Around} {outer : List Env} {s s1 : Shared} {H : Hp} {E : XK} {us : List Value} {vs : List V}
    (S : FnScope N ps scope) (hd : A.handled = none) (e0 : Env0 P w K mg base A outer s H) (hl : vs.length = ps.length) (r : Vals vs us)
    (x : InCallC s s.heap.objs.size (bindL (envOfC qual scope s.heap.objs.size f cd).kindOf (ps.zip us) fun _ => none) (cellsFrom (s.heap.objs.size + 1) scope.names []) (bindC (envOfC qual scope s.heap.objs.size f cd).kindOf (ps.zip us) fun _ => none) s1) :
    Inv (cxOf CX P w K mg base N qual scope f cd A outer s H E) [] (start N vs) H s1 := by
  have hpl : ps.length ≤ N.length := by have := congrArg List.length S.pre; rw [List.length_take] at this; omega
  obtain ⟨h1, tk, rfl, hk⟩ := x.done
  have noA : ∀ b : Addr, b ∉ (cxOf CX P w K mg base N qual scope f cd A outer s H E).ex := fun b z => absurd (show b ∈ ([] : List Addr) from z) (by simp)
  refine ⟨⟨e0.mod, S.kind, rfl, rfl, Nat.le_refl _, fun y z c h1 h2 => ?_, fun y hy => ?_, fun y c _ h => ?_, fun _ => hd, Around.frames_deeper e0.frames, .inr ⟨rfl, rfl⟩, fun b z => absurd z (noA b), e0.bs, e0.bsz, fun b _ _ => noA b, fun b z => absurd z (noA b), e0.funs, e0.frf⟩,
    rfl, e0.bare, Un.kept hk, ⟨_, x.toInCall.ns, fun i y v h1 h2 h3 => ?_⟩, fun y c h => ⟨_, x.cell y c h⟩, e0.hok.fresh (Nat.le_refl _), fun y c h => ?_, fun p hp => absurd (show p ∈ ([] : List (Addr × Obj)) from hp) (by simp), e0.hok.kept hk, ?_⟩
  · exact name_of_addr x.apart (PySem.mem_of_lookup h1) (PySem.mem_of_lookup h2)
  · have hy : scope.names.lookup y = some .cell ∨ scope.names.lookup y = some .free := hy
    rcases hy with hy | hy
    · exact cell_has hy
    · exact absurd rfl (S.nofree _ (PySem.mem_of_lookup hy))
  · exact Nat.le_of_lt (x.above y c (PySem.mem_of_lookup h))
  · have hi : i < vs.length := by
      unfold start at h2
      by_cases hi : i < vs.length
      · exact hi
      · rw [List.getElem?_append_right (by simpa using hi)] at h2
        rw [List.getElem?_replicate] at h2
        split at h2 <;> cases h2
    have ha : vs[i]? = some v := by
      unfold start at h2
      rw [List.getElem?_append_left (by simpa using hi), List.getElem?_map] at h2
      cases e : vs[i]? with
      | none => rw [e] at h2; cases h2
      | some a => rw [e] at h2; cases h2; rfl
    obtain ⟨u, hu, rv⟩ := r.get ha
    have hp : ps[i]? = some y := by
      rw [← S.pre, List.getElem?_take_of_lt (by omega)]; exact h1
    have ndP : ps.Nodup := by rw [← S.pre]; exact S.nd.sublist (List.take_sublist _ _)
    refine ⟨u, rv, ?_⟩
    rcases S.par y (List.mem_of_getElem? hp) with k | k
    · exact .inl ⟨k, bindL_get ndP hp hu k⟩
    · obtain ⟨c, e⟩ := cell_has (n := s.heap.objs.size + 1) k
      refine .inr ⟨.inl k, c, e, ?_⟩
      have q := x.cell y c e
      rw [bindC_get ndP hp hu (by show scope.names.lookup y ≠ _; rw [k]; decide)] at q
      exact q
  · exact e0.hok.fresh (Nat.le_of_lt (x.above y c (PySem.mem_of_lookup h)))
  · unfold start
    show _ = N.length
    rw [List.length_append, List.length_map, List.length_replicate]
    omega

/-- THE RULE: a def (or a method) of the text, by its body. The body's reading t is chosen for each entry; it is run at the parameters' values -/
theorem fn_of {CX : CXT} {P : Program} {w : World} {K : PySem.W.Frag} {mg : Str → Option Value} {base : Heap} {k : Nat} {f : Addr} {name qual : Str} {params : Arguments} {body : List Stmt} {scope : Scope} {dV kV doc pm cdv ct oc : Value} {an od : Option Addr}
    {osl : Array (Option Value)} {N ps : List Str} {sp : Sp} (lk : K.lookup f = some ⟨oc, od, .func (PySem.W.fnOf name qual params body scope dV kV doc pm an cdv ct), osl⟩) (hcd : PySem.W.codeIn K cdv qual = true) (S : FnScope N ps scope)
    (len : ∀ vs H Q E, sp vs H Q E → vs.length = ps.length)
    (hbody : ∀ (A : Around) (outer : List Env) (s : Shared) (H : Hp) (vs : List V) (Q : VK) (E : XK), Room k (A.deeper (envOfC qual scope s.heap.objs.size f cdv)) → sp vs H Q E →
      ∃ t, PSs (cxOf CX P w K mg base N qual scope f cdv A outer s H E) body t ∧ t { nx := fun _ H' => Q .non H', rt := Q } (start N vs) H) :
    FnOk P w K mg base CX (k + 1) f (PySem.W.fnOf name qual params body scope dV kV doc pm an cdv ct) ps sp := by
  refine ⟨len, fun A outer s H args us vs Q E hr e0 hb r hsp => ?_⟩
  have hl := len _ _ _ _ hsp
  have KX : K.In s.heap := e0.mod.kin.keeps fun b o e => (e0.bs b o e).1
  have lim : s.heap.NoLimit := e0.mod.nolimit.keeps fun b o e => (e0.bs b o e).1
  have hkind : ∀ y ∈ ps.zip us, scope.names.lookup y.1 = some .local ∨ (scope.names.lookup y.1 = some .cell ∧ ((cellsFrom (s.heap.objs.size + 1) scope.names []).lookup y.1).isSome = true) := fun ⟨n, v⟩ hy => by
    rcases S.par n (List.of_mem_zip hy).1 with q | q
    · exact .inl q
    · exact .inr ⟨q, PySem.W.cellsFrom_some _ _ _ (.inl q)⟩
  refine codeAny_call_function hr.depth (KX _ _ lk) rfl S.co S.gen rfl (PySem.W.codeRec_of KX hcd) (hb _ _ _ _ ?_)
  refine wpAny_newFunctionEnv_cells S.kind hkind fun env he s1 x => ?_
  subst he
  refine ⟨lim.keeps x.toInCall.keep, codeAny_func ?_⟩
  obtain ⟨t, ht, hq⟩ := hbody A outer s H vs Q E (hr.deeper _) hsp
  have I : Inv (cxOf CX P w K mg base N qual scope f cdv A outer s H E) [] (start N vs) H s1 := inv_start S hr.hd e0 hl r x
  refine wpAny_mono (ht [] s1 (start N vs) H _ I hq) (fun fl s' hs => ?_) fun e s' hs => hs
  have fin : ∀ {σ' : St} {H' : Hp} {v : V} {u : Value}, Inv (cxOf CX P w K mg base N qual scope f cdv A outer s H E) [] σ' H' s' → RelV v u → Q v H' → CE outer P w H s Q u s' :=
    fun {σ' H' v u} J rv q => ⟨v, H', J.os, J.bare, J.base, J.hok, rv, q⟩
  cases fl with
  | ret u =>
    obtain ⟨v, σ', H', J, rv, q⟩ := hs
    exact fin J rv q
  | next =>
    obtain ⟨σ', H', J, q⟩ := hs
    exact fin (v := V.non) (u := Value.none) J rfl q
  | brk =>
    obtain ⟨_, _, _, q⟩ := hs
    exact False.elim q
  | cont =>
    obtain ⟨_, _, _, q⟩ := hs
    exact False.elim q
end L2

namespace L2
open PySem PySem.Spec PyProof.Rows
section
variable {X : Cx} {x : Str} {p pos : Pos} {e : Expr} {es : List Expr} {t : TA} {id T : String} {r : List V → Hp → VK → Prop}

def tCB (r : List V → Hp → VK → Prop) (t : TA) : TE := fun σ H Q => t σ H fun vs H1 => r vs H1 Q
/-- f(e, ..), f a built-in function -/
theorem pe_callB (hc : CallR X (.builtin id) r) (hg : Gl X x) (hm : X.mg x = none) (hv : bootBuiltins x = some (.builtin id)) (ha : PA X (e :: es) t) (hn : x ≠ "__name__" := by decide) (hdb : (x == ("__debug__" : Str)) = false := by decide)
    (he : starEach (e :: es) X.env = (false, eval e X.env) :: starEach es X.env := by rfl) (hpl : (backTo pos (starEach es X.env)).any (·.1) = false := by rfl) : PE X (.Call (.Name x p) (e :: es) [] pos) (tCB r t) := by
  intro pins s σ H Q I h
  refine wpAny_Call_Name_kw (ld_blt I hg hm hv ?_ hn hdb)
  exact PyProof.Rows.callWith_builtin1 (thn (ha pos pins s σ H _ I h) fun us s1 ⟨vs, H1, I1, r1, q1⟩ => hc pins s1 σ H1 vs us Q I1 r1 q1) he hpl
/-- T(e, ..), T a built-in type -/
theorem pe_callTy (hc : CallR X (.type T) r) (hg : Gl X x) (hm : X.mg x = none) (hv : bootBuiltins x = some (.type T)) (ha : PA X (e :: es) t) (hn : x ≠ "__name__" := by decide) (hdb : (x == ("__debug__" : Str)) = false := by decide)
    (he : starEach (e :: es) X.env = (false, eval e X.env) :: starEach es X.env := by rfl) (hpl : (backTo pos (starEach es X.env)).any (·.1) = false := by rfl) : PE X (.Call (.Name x p) (e :: es) [] pos) (tCB r t) := by
  intro pins s σ H Q I h
  refine wpAny_Call_Name_kw (ld_blt I hg hm hv ?_ hn hdb)
  exact PyProof.Rows.callWith_type1 (thn (ha pos pins s σ H _ I h) fun us s1 ⟨vs, H1, I1, r1, q1⟩ => hc pins s1 σ H1 vs us Q I1 r1 q1) he hpl
end
end L2

namespace HT
open PySem PyProof.Rows



section
open PySem.SeqAt
open PySem.AutoSeq1 (wpAny_loadPart')
open PySem.MeetsSeq PySem.MeetsSeq2 PySem.MeetsSeq3

end

section
variable {prog : Program} {w : World} {A : Around} {E : Value → Shared → Prop} {s : Shared}



/-! ### t[a:b], not the whole -/
/-- a slice's bound as a place among n (d where it is left out) -/
def sIx (n d : Nat) : Option Int → Nat
  | none => d
  | some v => if v < 0 then (v + (n : Int)).toNat else min v.toNat n
theorem sIx_le (n d : Nat) (hd : d ≤ n) (o : Option Int) : sIx n d o ≤ n := by
  cases o with
  | none => exact hd
  | some v =>
    show (if v < 0 then (v + (n : Int)).toNat else min v.toNat n) ≤ n
    by_cases hv : v < 0
    · rw [if_pos hv]; omega
    · rw [if_neg hv]; exact Nat.min_le_right _ _
theorem clip_eq (v : Int) (n d : Nat) : (if v < 0 then max (v + (n : Int)) 0 else min v (n : Int)) = ((sIx n d (some v) : Nat) : Int) := by
  show (if v < 0 then max (v + (n : Int)) 0 else min v (n : Int)) = (((if v < 0 then (v + (n : Int)).toNat else min v.toNat n) : Nat) : Int)
  by_cases hv : v < 0
  · simp only [if_pos hv]; omega
  · simp only [if_neg hv]; omega
theorem adjust_gen (lo hi : Option Int) (n : Nat) : Builtin.Slice.sliceAdjust lo hi 1 (n : Int) = (((sIx n 0 lo : Nat) : Int), ((sIx n n hi : Nat) : Int)) := by
  have h1 : ¬ ((1 : Int) < 0) := by omega
  unfold Builtin.Slice.sliceAdjust
  simp only [h1, if_false]
  refine Prod.ext ?_ ?_
  · cases lo with
    | none => rfl
    | some v => exact clip_eq v n 0
  · cases hi with
    | none => rfl
    | some v => exact clip_eq v n n
theorem places_gen (i j : Nat) : Builtin.Slice.slicePlaces (i : Int) (j : Int) 1 = j - i := by
  unfold Builtin.Slice.slicePlaces
  have h1 : (1 : Int) > 0 := by omega
  simp only [h1, if_true, Int.ediv_one]
  split <;> omega
theorem slicePart_ {v : Value} {o : Option Int} {Q : Option Int → Shared → Prop} (p : IsPart v o) (h : Q o s) : wpAny (model prog w) A (Builtin.Slice.slicePartIndex v) Q E s := by
  cases p with
  | none => exact slicePart_none h
  | int i t => exact slicePart_int h
theorem sliceApplied_gen {sl : Addr} {vl vu : Value} {lo hi : Option Int} {n : Nat} {Q : Int × Int × Nat → Shared → Prop} (hs : s.heap.IsSliceOf sl vl vu .none) (pl : IsPart vl lo) (pu : IsPart vu hi)
    (h : Q (((sIx n 0 lo : Nat) : Int), 1, sIx n n hi - sIx n 0 lo) s) : wpAny (model prog w) A (Builtin.Slice.sliceApplied (.ref sl) (pure (n : Int))) Q E s := by
  obtain ⟨os, hos, hcs, hds⟩ := id hs
  unfold Builtin.Slice.sliceApplied Builtin.Slice.sliceFields
  refine wpAny_bind (wpAny_bind (wpAny_field hos hds (x := vl) rfl (wpAny_bind (wpAny_field hos hds (x := vu) rfl (wpAny_bind (wpAny_field hos hds (x := .none) rfl (wpAny_pure ?_)))))))
  refine wpAny_bind (slicePart_none ?_)
  show wpAny _ _ (if ((1 : Int) == 0) = true then _ else _) _ _ s
  rw [if_neg (by decide)]
  refine wpAny_bind (slicePart_ pl (wpAny_bind (slicePart_ pu (wpAny_bind (wpAny_pure ?_)))))
  show wpAny _ _ (match Builtin.Slice.sliceAdjust lo hi 1 (n : Int) with | (lo, hi) => pure (lo, (1 : Int), Builtin.Slice.slicePlaces lo hi 1)) _ _ s
  rw [adjust_gen lo hi n]
  show wpAny _ _ (pure (((sIx n 0 lo : Nat) : Int), (1 : Int), Builtin.Slice.slicePlaces ((sIx n 0 lo : Nat) : Int) ((sIx n n hi : Nat) : Int) 1)) _ _ s
  rw [places_gen]
  exact wpAny_pure h
theorem pick_gen (xs : Array Value) (i k : Nat) : ((List.range k).filterMap fun (m : Nat) => xs[((i : Int) + (m : Int) * 1).toNat]?).toArray = ((xs.toList.drop i).take k).toArray := by
  have e : (fun (m : Nat) => xs[((i : Int) + (m : Int) * 1).toNat]?) = fun m => xs[i + m]? := by
    funext m
    have : ((i : Int) + (m : Int) * 1).toNat = i + m := by omega
    rw [this]
  rw [e]
  have := pick_run xs i k
  rw [List.filterMap_map] at this
  have e2 : ((fun x => xs[x]?) ∘ fun x => i + x) = fun m => xs[i + m]? := rfl
  rw [e2] at this
  rw [this]

theorem getItem_tuple_cut {t sl : Addr} {items : Array Value} {vl vu : Value} {lo hi : Option Int} {Q : Value → Shared → Prop} (ht : IsTup s.heap t items) (hs : s.heap.IsSliceOf sl vl vu .none) (pl : IsPart vl lo) (pu : IsPart vu hi)
    (hw : ¬ (sIx items.size 0 lo = 0 ∧ sIx items.size items.size hi = items.size))
    (h : Q (.ref s.heap.objs.size) { s with heap := s.heap.push { cls := .type "tuple", data := .seq ((items.toList.drop (sIx items.size 0 lo)).take (sIx items.size items.size hi - sIx items.size 0 lo)).toArray } })
    (hsz : items.size ≤ sizeLine) : wpAny (model prog w) A (getItem (.ref t) (.ref sl)) Q E s := by
  have htake : sizeOk (.seq ((items.toList.drop (sIx items.size 0 lo)).take (sIx items.size items.size hi - sIx items.size 0 lo)).toArray) := by
    show ((items.toList.drop (sIx items.size 0 lo)).take (sIx items.size items.size hi - sIx items.size 0 lo)).toArray.size ≤ sizeLine
    rw [List.size_toArray, List.length_take, List.length_drop, Array.length_toList]
    omega
  have hj : sIx items.size items.size hi ≤ items.size := sIx_le _ _ (Nat.le_refl _) hi
  obtain ⟨os, hos, hcs, hds⟩ := id hs
  have hTs : s.TypeIs (.ref sl) "slice" := ⟨os, hos, hcs⟩
  unfold getItem
  try with_reducible refine wpAny_holding ?_
  first | refine wpAny_bind (wpAny_pure ?_) | skip
  refine wpAny_bind (wpAny_sequenceKey ht.typeIs (by decide) ?_)
  refine wpAny_bind (wpAny_callSpecial?_slot (name := Str.ofString "__getitem__") ht.typeIs PyProof.Rows.slot_tuple_getitem
    (wpAny_call_entry PyProof.Rows.slot_tuple_getitem ht.typeIs entry_tuple_getitem ?_ (args_tuple_getitem _ _)))
  show wpAny _ _ (Builtin.Tuple.tupleItemsOf (.ref t) >>= _) _ _ s
  refine wpAny_bind (tupleItemsOf_ ht ?_)
  refine wpAny_bind (wpAny_typeOf hTs ?_)
  rw [if_pos (by decide)]
  refine wpAny_bind (sliceApplied_gen hs pl pu ?_)
  have hno : ¬ ((((sIx items.size 0 lo : Nat) : Int) == 0 && (1 : Int) == 1 && (sIx items.size items.size hi - sIx items.size 0 lo) == items.size) = true) := by
    intro q
    rw [Bool.and_eq_true, Bool.and_eq_true] at q
    have q1 : ((sIx items.size 0 lo : Nat) : Int) = 0 := eq_of_beq q.1.1
    have q2 : sIx items.size items.size hi - sIx items.size 0 lo = items.size := eq_of_beq q.2
    exact hw ⟨by omega, by omega⟩
  show wpAny _ _ (if (((sIx items.size 0 lo : Nat) : Int) == 0 && (1 : Int) == 1 && (sIx items.size items.size hi - sIx items.size 0 lo) == items.size) = true then _ else _) _ _ s
  rw [if_neg hno, pick_gen]
  first
    | exact wpAny_bind (m := Builtin.Tuple.tupleExact _) (wpAny_newObj_type (wpAny_pure ⟨_, rfl, wpAny_pure h⟩) htake)
    | exact wpAny_bind (m := Builtin.Tuple.tupleExact _) (wpAny_newObj_type (wpAny_bind (wpAny_pure (wpAny_pure ⟨_, rfl, wpAny_pure h⟩))) htake)
    | exact wpAny_bind (wpAny_bind (m := Builtin.Tuple.tupleExact _) (wpAny_newObj_type (wpAny_pure (wpAny_pure ⟨_, rfl, wpAny_pure h⟩)) htake))
    | exact wpAny_bind (wpAny_bind (m := Builtin.Tuple.tupleExact _) (wpAny_newObj_type (wpAny_pure ⟨_, rfl, wpAny_pure h⟩) htake))
end
end HT

namespace L2
open PySem PySem.Spec PyProof.Rows

/-! ### the parts of a slice -/
abbrev TO := St → Hp → (Option Int → Hp → Prop) → Prop
/-- a slice's part (left out, or an int) -/
def PO (X : Cx) (e : Option Expr) (t : TO) : Prop :=
  ∀ (pins : List (Addr × Obj)) (s : Shared) (σ : St) (H : Hp) (Q : Option Int → Hp → Prop), Inv X pins σ H s → t σ H Q →
    wpAny (model X.prog X.w) X.A (evalPart e X.env) (fun u s' => ∃ o H', Inv X pins σ H' s' ∧ IsPart u o ∧ Q o H') X.xe s
def tNoPart : TO := fun _ H Q => Q none H
def tPart (t : TE) : TO := fun σ H Q => t σ H fun x H1 => ∃ i, x = .int i ∧ Q (some i) H1

theorem intsAre_of {ns : List Int} : ∀ {us : List Value}, Vals (ns.map V.int) us → IntsAre us ns := by
  induction ns with
  | nil => intro us r; rw [List.map_nil] at r; cases r; exact .nil
  | cons n ns ih =>
    intro us r
    rw [List.map_cons] at r
    cases r with
    | cons r1 r2 =>
      obtain ⟨t, e⟩ := r1
      subst e
      exact .cons n t (ih r2)

section
variable {X : Cx} {e : Expr} {te : TE} {lo hi : Option Expr} {tl th : TO} {pos p2 : Pos}

theorem po_none : PO X none tNoPart := by
  intro pins s σ H Q I h
  rw [evalPart_none]
  exact wpAny_pure ⟨none, H, I, .none, h⟩
theorem po_some (h : PE X e te) : PO X (some e) (tPart te) := by
  intro pins s σ H Q I hw
  rw [evalPart_some]
  refine thn (h pins s σ H _ I hw) fun u s1 ⟨x, H1, I1, r1, q1⟩ => ?_
  obtain ⟨i, rfl, q⟩ := q1
  obtain ⟨t, rfl⟩ := r1
  exact ⟨some i, H1, I1, .int i t, q⟩

/-- what a slice of a value is, by values: the slice object stands at sl -/
def SlR (X : Cx) (r : V → Option Int → Option Int → Hp → VK → Prop) : Prop :=
  ∀ (pins : List (Addr × Obj)) (s : Shared) (σ : St) (H : Hp) (x : V) (v vl vu : Value) (lo hi : Option Int) (sl : Addr) (Q : VK), Inv X pins σ H s → RelV x v → s.heap.IsSliceOf sl vl vu .none → IsPart vl lo → IsPart vu hi → r x lo hi H Q →
    ∃ T id, typeLookup (.type T) "__getitem__" = pure (some (.builtin id)) ∧ s.TypeIs v T ∧ wpAny (model X.prog X.w) X.A (getItem v (.ref sl)) (EP X pins σ Q) X.xe s
def tSl (r : V → Option Int → Option Int → Hp → VK → Prop) (te : TE) (tl th : TO) : TE := fun σ H Q => te σ H fun x H1 => tl σ H1 fun l H2 => th σ H2 fun u H3 => r x l u H3 Q
/-- a[lo:hi], any a -/
theorem pe_slice {r : V → Option Int → Option Int → Hp → VK → Prop} (hr : SlR X r) (he : PE X e te) (hl : PO X lo tl) (hu : PO X hi th) : PE X (.Subscript e (.Slice lo hi none p2) pos) (tSl r te tl th) := by
  intro pins s σ H Q I h
  refine Subscript_ (thn (he pins s σ H _ I h) fun v s1 ⟨x, H1, I1, r1, q1⟩ => ?_)
  refine wpAny_Slice (thn (hl pins s1 σ H1 _ I1 q1) fun vl s2 ⟨l, H2, I2, pl, q2⟩ => thn (hu pins s2 σ H2 _ I2 q2) fun vu s3 ⟨u, H3, I3, pu, q3⟩ => ?_)
  rw [evalPart_none]
  refine wpAny_pure ?_
  have I4 : Inv X pins σ H3 { s3 with heap := s3.heap.push { cls := .type "slice", data := .fields #[vl, vu, .none] } } := I3.kept (t' := s3.toks) fun b ob q => Heap.get?_push_of_some _ q
  obtain ⟨T, id, hT, ht, hg⟩ := hr pins { s3 with heap := s3.heap.push { cls := .type "slice", data := .fields #[vl, vu, .none] } } σ H3 x v vl vu l u s3.heap.objs.size Q I4 r1 (Heap.IsSliceOf.new ..) pl pu q3
  show wpAny (model X.prog X.w) X.A (subscriptTail e (.Slice lo hi none p2) v (.ref s3.heap.objs.size)) (EP X pins σ Q) X.xe { s3 with heap := s3.heap.push { cls := .type "slice", data := .fields #[vl, vu, .none] } }
  exact tail_any (ops := [.ref s3.heap.objs.size, v]) ht hT hg (by with_unfolding_all rfl)

/-- the items of xs[lo:hi] -/
def cutV (xs : List V) (lo hi : Option Int) : List V := (xs.drop (HT.sIx xs.length 0 lo)).take (HT.sIx xs.length xs.length hi - HT.sIx xs.length 0 lo)
theorem cutV_length (xs : List V) (lo hi : Option Int) : (cutV xs lo hi).length ≤ xs.length := by
  unfold cutV
  rw [List.length_take, List.length_drop]
  omega
/-- t[lo:hi], not the whole of it (the whole would be t itself) -/
def rSlT (K : PySem.W.Frag) : V → Option Int → Option Int → Hp → VK → Prop := fun x lo hi H Q => ∃ a xs, x = .ref a ∧ SqT K H a xs ∧
  ¬ (HT.sIx xs.length 0 lo = 0 ∧ HT.sIx xs.length xs.length hi = xs.length) ∧ ∀ p, H p = none → Q (.ref p) (upd H p (.tup (cutV xs lo hi)))
theorem sl_tup : SlR X (rSlT X.K) := by
  intro pins s σ H x v vl vu lo hi sl Q I rx hs pl pu h
  obtain ⟨a, xs, rfl, hx, hw, q⟩ := h
  cases rx
  obtain ⟨its, r, ht, hz⟩ := I.tuple hx
  have hlen : its.toArray.size = xs.length := by rw [List.size_toArray]; exact r.length.symm
  refine ⟨"tuple", _, PyProof.Rows.slot_tuple_getitem.lookup, ht.typeIs, ?_⟩
  refine HT.getItem_tuple_cut ht hs pl pu (by rw [hlen]; exact hw) ?_ (by rw [hlen]; exact hz)
  rw [hlen]
  refine ⟨.ref s.heap.objs.size, _, I.laid (t' := s.toks) (o := .tup (cutV xs lo hi)) (fun b ob q => Heap.get?_push_of_some _ q) (Nat.le_refl _) ?_, rfl, q _ (I.hok.fresh (Nat.le_refl _))⟩
  exact ⟨Nat.le_trans (cutV_length xs lo hi) hz, _, (r.drop (HT.sIx xs.length 0 lo)).take (HT.sIx xs.length xs.length hi - HT.sIx xs.length 0 lo), IsTup.new _ _⟩

/-! ### t < u, t + u -/
end
end L2

namespace L2
open PySem PySem.Spec PyProof.Rows

/-! ### places -/
/-- the place that an index of any sign means -/
def ixN (n : Nat) (i : Int) : Option Nat := if 0 ≤ i then (if i < n then some i.toNat else none) else if -(n : Int) ≤ i then some (i + n).toNat else none
def atI {α : Type} (xs : List α) (i : Int) : Option α := (ixN xs.length i).bind fun j => xs[j]?
theorem ixN_seq {n : Nat} {i : Int} {j : Nat} (h : ixN n i = some j) : seqIndex? i n = some j ∧ j < n ∧ -(n : Int) ≤ i ∧ i < n := by
  unfold ixN at h
  by_cases h0 : 0 ≤ i
  · rw [if_pos h0] at h
    by_cases h1 : i < n
    · rw [if_pos h1] at h
      have e : i.toNat = j := Option.some.inj h
      exact ⟨by rw [seqIndex_of h0 h1, e], by omega, by omega, h1⟩
    · rw [if_neg h1] at h; cases h
  · rw [if_neg h0] at h
    by_cases h1 : -(n : Int) ≤ i
    · rw [if_pos h1] at h
      have e : (i + n).toNat = j := Option.some.inj h
      exact ⟨by rw [seqIndex_neg (by omega) h1, e], by omega, h1, by omega⟩
    · rw [if_neg h1] at h; cases h
theorem atI_get {α : Type} {xs : List α} {i : Int} {v : α} (h : atI xs i = some v) : ∃ j, seqIndex? i xs.length = some j ∧ xs[j]? = some v ∧ j < xs.length ∧ -(xs.length : Int) ≤ i ∧ i < xs.length := by
  unfold atI at h
  cases e : ixN xs.length i with
  | none => rw [e] at h; cases h
  | some j =>
    rw [e] at h
    obtain ⟨h1, h2, h3, h4⟩ := ixN_seq e
    exact ⟨j, h1, h, h2, h3, h4⟩
theorem atI_nat {α : Type} {xs : List α} {j : Nat} {v : α} (h : xs[j]? = some v) : atI xs (j : Int) = some v := by
  have hj : j < xs.length := (List.getElem?_eq_some_iff.mp h).1
  have e : ixN xs.length (j : Int) = some j := by
    unfold ixN
    rw [if_pos (by omega), if_pos (by omega)]; simp
  unfold atI; rw [e]; exact h

/-! ### what may be subscripted -/
/-- what stands as an index of a plain subscript -/
def PlainIx (b : Expr) : Prop := ∀ o i, subscripted b false o i = operate [o, i] (getItem o i)
/-- a subscript by values -/
def IxR (X : Cx) (r : R2) : Prop :=
  ∀ (value slice : Expr) (pins : List (Addr × Obj)) (s : Shared) (σ : St) (H : Hp) (x y : V) (v u : Value) (Q : VK), Inv X pins σ H s → RelV x v → RelV y u → r x y H Q →
    subscripted slice false v u = operate [v, u] (getItem v u) → wpAny (model X.prog X.w) X.A (subscriptTail value slice v u) (EP X pins σ Q) X.xe s
/-- a call of a builtin's method by values: the receiver, the arguments -/
def MtR (X : Cx) (id : String) (r : V → List V → Hp → VK → Prop) : Prop :=
  ∀ (pins : List (Addr × Obj)) (s : Shared) (σ : St) (H : Hp) (x : V) (xs : List V) (v : Value) (us : List Value) (Q : VK), Inv X pins σ H s → RelV x v → Vals xs us → r x xs H Q →
    wpAny (model X.prog X.w) X.A (call (.builtin id) (v :: us)) (EP X pins σ Q) X.xe s
section
variable {X : Cx} {a b : Expr} {ta tb : TE} {pos : Pos}
theorem IxR.or {r r' : R2} (h : IxR X r) (h' : IxR X r') : IxR X (fun x y H Q => r x y H Q ∨ r' x y H Q) := by
  intro value slice pins s σ H x y v u Q I rx ry q hs
  rcases q with q | q
  · exact h value slice pins s σ H x y v u Q I rx ry q hs
  · exact h' value slice pins s σ H x y v u Q I rx ry q hs
/-- a[b] -/
theorem pe_ix {r : R2} (hr : IxR X r) (ha : PE X a ta) (hb : PE X b tb) (hs : PlainIx b) : PE X (.Subscript a b pos) (tOp r ta tb) := by
  intro pins s σ H Q I h
  exact Subscript_ (binT ha hb I h fun v u s2 x y H2 I2 rx ry q => hr a b pins s2 σ H2 x y v u Q I2 rx ry q (hs _ _))

def rIxL (K : PySem.W.Frag) : R2 := fun x y H Q => ∃ p xs i v, x = .ref p ∧ y = .int i ∧ SqL K H p xs ∧ atI xs i = some v ∧ Q v H
def rIxT (K : PySem.W.Frag) : R2 := fun x y H Q => ∃ p xs i v, x = .ref p ∧ y = .int i ∧ SqT K H p xs ∧ atI xs i = some v ∧ Q v H
def rIxS : R2 := fun x y H Q => ∃ z i c, x = .str z ∧ y = .int i ∧ z.length ≤ sizeLine ∧ atI z.cps.toList i = some c ∧ Q (.str ⟨#[c]⟩) H
theorem ix_list : IxR X (rIxL X.K) := by
  intro value slice pins s σ H x y v u Q I rx ry h hs
  obtain ⟨p, xs, i, z, rfl, rfl, hq, he, q⟩ := h
  cases rx
  obtain ⟨t, rfl⟩ := ry
  obtain ⟨its, r, pl, hz⟩ := I.list hq
  obtain ⟨j, h1, h2, h3, h4, h5⟩ := atI_get he
  obtain ⟨w, ew, rw'⟩ := r.get h2
  have hl := r.length
  have hn := line63
  have fin : EP X pins σ Q w s := ⟨z, H, I, rw', q⟩
  by_cases h0 : 0 ≤ i
  · have hj : i.toNat = j := by
      rw [seqIndex_of h0 h5] at h1
      exact Option.some.inj h1
    exact item_listR pl.isList h0 (by omega) (by rw [hj]; simpa using ew) fin hs
  · have hj : (i + (its.toArray.size : Int)).toNat = j := by
      rw [seqIndex_neg (by omega) h4] at h1
      rw [List.size_toArray, ← hl]
      exact Option.some.inj h1
    exact subscriptTail_builtinR (x := w) pl.isList.typeIs slot_list_getitem.lookup
      (wpAny_getItem_list_neg (Q := fun r s' => r = w ∧ EP X pins σ Q r s') pl.isList (by omega) (by rw [List.size_toArray] <;> omega) (by omega) (by rw [hj]; simpa using ew) ⟨rfl, fin⟩) hs
theorem ix_tup : IxR X (rIxT X.K) := by
  intro value slice pins s σ H x y v u Q I rx ry h hs
  obtain ⟨p, xs, i, z, rfl, rfl, hq, he, q⟩ := h
  cases rx
  obtain ⟨t, rfl⟩ := ry
  obtain ⟨its, r, pl, hz⟩ := I.tuple hq
  obtain ⟨j, h1, h2, h3, h4, h5⟩ := atI_get he
  obtain ⟨w, ew, rw'⟩ := r.get h2
  have hl := r.length
  have hn := line63
  have fin : EP X pins σ Q w s := ⟨z, H, I, rw', q⟩
  exact subscriptTail_builtinR (x := w) pl.typeIs slot_tuple_getitem.lookup
    (getItem_tuple (j := j) (Q := fun r s' => r = w ∧ EP X pins σ Q r s') pl (by omega) (by omega) (by rw [List.size_toArray, ← hl]; exact h1) (by simpa using ew) ⟨rfl, fin⟩) hs
theorem ix_str : IxR X rIxS := by
  intro value slice pins s σ H x y v u Q I rx ry h hs
  obtain ⟨z, i, c, rfl, rfl, hz, he, q⟩ := h
  obtain ⟨t, rfl⟩ := rx
  obtain ⟨t', rfl⟩ := ry
  obtain ⟨j, h1, h2, h3, h4, h5⟩ := atI_get he
  have hl : z.cps.toList.length = z.length := by simp [Str.length]
  rw [hl] at h1 h4 h5
  have hn := line63
  exact tail_any (typeIs_str s z t) slot_str_getitem.lookup (getItem_str (c := c) (by
    have e1 : decide (i < -(2 ^ 63 : Int)) = false := decide_eq_false (by omega)
    have e2 : decide (i ≥ 2 ^ 63) = false := decide_eq_false (by omega)
    rw [e1, e2, Bool.or_false]) (by rw [h1]; simpa using h2) ⟨.str ⟨#[c]⟩, H, I.tok _, ⟨_, rfl⟩, q⟩) hs

/-! ### xs[i] = v, any sign -/
/-- the list's object behind a store -/
theorem mapSeq_set (its : List Value) (n j : Nat) (u : Value) : Obj.mapSeq (·.setIfInBounds j u) { cls := .type "list", data := .seq its.toArray n } = { cls := .type "list", data := .seq (its.set j u).toArray n } := by
  simp [Obj.mapSeq]
theorem Inv.lst {pins : List (Addr × Obj)} {σ : St} {H : Hp} {s : Shared} {p : Addr} {xs : List V} (I : Inv X pins σ H s) (h : H p = some (.lst xs)) :
    ∃ (its : List Value) (n : Nat), Vals xs its ∧ s.heap.get? p = some { cls := .type "list", data := .seq its.toArray n } ∧ xs.length ≤ sizeLine := by
  obtain ⟨z, its, n, r, e⟩ := I.hok p _ h
  exact ⟨its, n, r, e, z⟩
/-- the list at p is written by an update of its object -/
theorem Inv.lstUpd {pins : List (Addr × Obj)} {σ : St} {H : Hp} {s : Shared} {p : Addr} {xs ys : List V} {its its' : List Value} {n n' : Nat} {f : Obj → Obj} (I : Inv X pins σ H s) (h : H p = some (.lst xs))
    (ho : s.heap.get? p = some { cls := .type "list", data := .seq its.toArray n }) (hf : f { cls := .type "list", data := .seq its.toArray n } = { cls := .type "list", data := .seq its'.toArray n' }) (r : Vals ys its') (hz : ys.length ≤ sizeLine) (t : Nat) :
    Inv X pins σ (upd H p (.lst ys)) { s with heap := s.heap.update p f, toks := t } := by
  have e : (s.heap.update p f).get? p = some { cls := .type "list", data := .seq its'.toArray n' } := by
    rw [Heap.get?_update_self f ho (by rw [hf] <;> rfl), hf]
  refine I.write (x := p) (e := p) (by rw [h]; trivial) (.inl rfl) (fun b u hb q => (Heap.get?_update_other _ _ (Ne.symm hb)).trans q) ⟨_, e⟩ ?_
  exact ⟨hz, its', n', r, e⟩
def rSetL : V → V → V → Hp → (Hp → Prop) → Prop := fun o i v H Q => ∃ p xs k j, o = .ref p ∧ i = .int k ∧ H p = some (.lst xs) ∧ ixN xs.length k = some j ∧ Q (upd H p (.lst (xs.set j v)))
theorem set_list : PSet X rSetL := by
  intro pins s σ H o i v ov iv u Q I ro ri rv h
  obtain ⟨p, xs, k, j, rfl, rfl, hp, hj, q⟩ := h
  cases ro
  obtain ⟨t, rfl⟩ := ri
  obtain ⟨its, n, r, ho, hz⟩ := I.lst hp
  obtain ⟨h1, h2, h3, h4⟩ := ixN_seq hj
  have hl := r.length
  have hn := line63
  have I' : Inv X pins σ (upd H p (.lst (xs.set j v))) { s with heap := s.heap.update p (Obj.mapSeq (·.setIfInBounds j u)) } :=
    I.lstUpd hp ho (mapSeq_set its n j u) (r.set rv j) (by rw [List.length_set]; exact hz) s.toks
  by_cases h0 : 0 ≤ k
  · have hk : k.toNat = j := by
      rw [seqIndex_of h0 h4] at h1
      exact Option.some.inj h1
    exact PySem.W.ki_setAt ho h0 (by omega) (by rw [List.size_toArray, ← hl]; exact h4) (by rw [hk]; exact ⟨_, I', q⟩)
  · have hk : (k + (its.toArray.size : Int)).toNat = j := by
      rw [seqIndex_neg (by omega) h3] at h1
      rw [List.size_toArray, ← hl]
      exact Option.some.inj h1
    exact PySem.W.ki_setBack ho (by omega) (by rw [List.size_toArray, ← hl]; exact h3) (by omega) (by rw [hk]; exact ⟨_, I', q⟩)

/-! ### slices -/
theorem slice_bounds (lo hi : Option Int) (n : Nat) : (sliceBounds lo hi none n).1 = ((HT.sIx n 0 lo : Nat) : Int) ∧ (sliceBounds lo hi none n).2.1 = ((HT.sIx n n hi : Nat) : Int) ∧ (sliceBounds lo hi none n).2.2 = 1 := by
  refine ⟨?_, ?_, rfl⟩
  · cases lo with
    | none => simp [sliceBounds, HT.sIx]
    | some i =>
      simp only [sliceBounds, HT.sIx, Option.getD_none, show (1 : Int) > 0 by decide, if_true]
      by_cases h : i < 0
      · simp only [h, if_true] <;> omega
      · simp only [h, if_false] <;> omega
  · cases hi with
    | none => simp [sliceBounds, HT.sIx]
    | some i =>
      simp only [sliceBounds, HT.sIx, Option.getD_none, show (1 : Int) > 0 by decide, if_true]
      by_cases h : i < 0
      · simp only [h, if_true] <;> omega
      · simp only [h, if_false] <;> omega
theorem slicePick_cut (its : List Value) (lo hi : Option Int) : slicePick its.toArray lo hi none = ((its.drop (HT.sIx its.length 0 lo)).take (HT.sIx its.length its.length hi - HT.sIx its.length 0 lo)).toArray := by
  obtain ⟨h1, h2, h3⟩ := slice_bounds lo hi its.toArray.size
  unfold slicePick
  rw [h1, h2, h3]
  simp only [sliceRange_one, pick_run, List.size_toArray] <;> rfl
/-- xs[lo:hi] of a list: a new list -/
def rSlL (K : PySem.W.Frag) : V → Option Int → Option Int → Hp → VK → Prop := fun x lo hi H Q => ∃ a xs, x = .ref a ∧ SqL K H a xs ∧ ∀ p, H p = none → Q (.ref p) (upd H p (.lst (cutV xs lo hi)))
theorem sl_list : SlR X (rSlL X.K) := by
  intro pins s σ H x v vl vu lo hi sl Q I rx hs pl pu h
  obtain ⟨a, xs, rfl, hx, q⟩ := h
  cases rx
  obtain ⟨its, r, ht, hz⟩ := I.list hx
  have hlen := r.length
  refine ⟨"list", _, slot_list_getitem.lookup, ht.isList.typeIs, ?_⟩
  refine wpAny_getItem_list_slice ht.isList hs pl pu .none (by simp) ?_ (by rw [List.size_toArray] <;> omega)
  rw [slicePick_cut, ← hlen]
  refine ⟨.ref s.heap.objs.size, _, I.laid (t' := s.toks) (o := .lst (cutV xs lo hi)) (fun b ob q => Heap.get?_push_of_some _ q) (Nat.le_refl _) ?_, rfl, q _ (I.hok.fresh (Nat.le_refl _))⟩
  exact ⟨Nat.le_trans (cutV_length xs lo hi) hz, _, 0, (r.drop (HT.sIx xs.length 0 lo)).take (HT.sIx xs.length xs.length hi - HT.sIx xs.length 0 lo), Heap.get?_push_size _ rfl⟩

/-! ### in, not in: flat items -/
def flatV : V → Bool
  | .non => true
  | .bl _ => true
  | .int _ => true
  | .str _ => true
  | _ => false
/-- == of flat values -/
def eqV : V → V → Bool
  | .non, .non => true
  | .bl a, .bl b => a == b
  | .bl a, .int b => (if a then 1 else 0) == b
  | .int a, .bl b => a == (if b then 1 else 0)
  | .int a, .int b => a == b
  | .str a, .str b => a == b
  | _, _ => false
theorem eqAt_V {A : Around} {s : Shared} {y x : V} {u v : Value} (ry : RelV y u) (rx : RelV x v) (fy : flatV y = true) (fx : flatV x = true) : SeqAt.EqAt A s u v (eqV y x) := by
  cases y with
  | non =>
    cases ry
    cases x with
    | non => cases rx; exact SeqAt.EqAt.same _
    | bl b => cases rx; exact SeqAt.EqAt.none_bool b
    | int b => obtain ⟨t, rfl⟩ := rx; exact SeqAt.EqAt.none_int b t
    | str b => obtain ⟨t, rfl⟩ := rx; exact SeqAt.EqAt.none_str b t
    | _ => exact absurd (show false = true from fx) Bool.false_ne_true
  | bl a =>
    cases ry
    cases x with
    | non => cases rx; exact SeqAt.EqAt.bool_none a
    | bl b => cases rx; exact SeqAt.EqAt.bool_bool a b
    | int b => obtain ⟨t, rfl⟩ := rx; exact SeqAt.EqAt.bool_int a b t
    | str b => obtain ⟨t, rfl⟩ := rx; exact SeqAt.EqAt.bool_str a b t
    | _ => exact absurd (show false = true from fx) Bool.false_ne_true
  | int a =>
    obtain ⟨t', rfl⟩ := ry
    cases x with
    | non => cases rx; exact SeqAt.EqAt.int_none a t'
    | bl b => cases rx; exact SeqAt.EqAt.int_bool a t' b
    | int b => obtain ⟨t, rfl⟩ := rx; exact SeqAt.EqAt.int_int a t' b t
    | str b => obtain ⟨t, rfl⟩ := rx; exact SeqAt.EqAt.int_str a t' b t
    | _ => exact absurd (show false = true from fx) Bool.false_ne_true
  | str a =>
    obtain ⟨t', rfl⟩ := ry
    cases x with
    | non => cases rx; exact SeqAt.EqAt.str_none a t'
    | bl b => cases rx; exact SeqAt.EqAt.str_bool a t' b
    | int b => obtain ⟨t, rfl⟩ := rx; exact SeqAt.EqAt.str_int a t' b t
    | str b => obtain ⟨t, rfl⟩ := rx; exact SeqAt.EqAt.str_str a t' b t
    | _ => exact absurd (show false = true from fx) Bool.false_ne_true
  | _ => exact absurd (show false = true from fy) Bool.false_ne_true
/-- the items' answers, read off the values (a value's own answer does not lean on its token) -/
def eqU (x : V) (u : Value) : Bool := match u with
  | .none => eqV .non x
  | .bool b => eqV (.bl b) x
  | .int i _ => eqV (.int i) x
  | .str z _ => eqV (.str z) x
  | _ => false
theorem eqU_of {x y : V} {u : Value} (r : RelV y u) (f : flatV y = true) : eqU x u = eqV y x := by
  cases y with
  | non => cases r; rfl
  | bl b => cases r; rfl
  | int i => obtain ⟨t, rfl⟩ := r; rfl
  | str z => obtain ⟨t, rfl⟩ := r; rfl
  | _ => exact absurd (show false = true from f) Bool.false_ne_true
theorem any_eqU {x : V} : ∀ {xs : List V} {us : List Value}, Vals xs us → xs.all flatV = true → us.any (eqU x) = xs.any fun y => eqV y x
  | _, _, .nil, _ => rfl
  | y :: xs, u :: us, .cons r t, f => by
    rw [List.all_cons, Bool.and_eq_true] at f
    rw [List.any_cons, List.any_cons, eqU_of r f.1, any_eqU t f.2]
theorem mem_eqAt {A : Around} {s : Shared} {x : V} {v : Value} (rx : RelV x v) (fx : flatV x = true) : ∀ {xs : List V} {us : List Value}, Vals xs us → xs.all flatV = true → ∀ u ∈ us, SeqAt.EqAt A s u v (eqU x u)
  | _, _, .nil, _ => fun u hu => by cases hu
  | y :: xs, u :: us, .cons r t, f => fun u' hu => by
    rw [List.all_cons, Bool.and_eq_true] at f
    rcases List.mem_cons.mp hu with rfl | hu
    · rw [eqU_of r f.1]; exact eqAt_V r rx f.1 fx
    · exact mem_eqAt rx fx t f.2 u' hu
def inV (x : V) (xs : List V) : Bool := xs.any fun y => eqV y x
/-- x in a list or tuple of flat items -/
def rIn (K : PySem.W.Frag) (neg : Bool) : R2 := fun x y H Q => ∃ p xs, y = .ref p ∧ (SqL K H p xs ∨ SqT K H p xs) ∧ flatV x = true ∧ xs.all flatV = true ∧ Q (.bl (if neg then !inV x xs else inV x xs)) H
theorem op_in_seq : OpR X (compareOp .In) (rIn X.K false) := by
  intro pins s σ H x y v u Q I rx ry h
  obtain ⟨p, xs, rfl, hq, fx, fs, q⟩ := h
  cases ry
  rcases hq with hq | hq
  · obtain ⟨its, r, pl, hz⟩ := I.list hq
    refine SeqAt.in_listAt (eqU x) pl.isList (fun w hw => mem_eqAt rx fx r fs w (by simpa using hw)) ⟨.bl _, H, I, rfl, ?_⟩
    rw [show its.toArray.any (eqU x) = its.any (eqU x) by simp, any_eqU r fs]
    exact q
  · obtain ⟨its, r, pl, hz⟩ := I.tuple hq
    refine SeqAt.in_tupleAt (eqU x) pl (fun w hw => mem_eqAt rx fx r fs w (by simpa using hw)) ⟨.bl _, H, I, rfl, ?_⟩
    rw [show its.toArray.any (eqU x) = its.any (eqU x) by simp, any_eqU r fs]
    exact q
theorem op_notIn_seq : OpR X (compareOp .NotIn) (rIn X.K true) := by
  intro pins s σ H x y v u Q I rx ry h
  obtain ⟨p, xs, rfl, hq, fx, fs, q⟩ := h
  cases ry
  rcases hq with hq | hq
  · obtain ⟨its, r, pl, hz⟩ := I.list hq
    refine SeqAt.notIn_listAt (eqU x) pl.isList (fun w hw => mem_eqAt rx fx r fs w (by simpa using hw)) ⟨.bl _, H, I, rfl, ?_⟩
    rw [show its.toArray.any (eqU x) = its.any (eqU x) by simp, any_eqU r fs]
    exact q
  · obtain ⟨its, r, pl, hz⟩ := I.tuple hq
    refine SeqAt.notIn_tupleAt (eqU x) pl (fun w hw => mem_eqAt rx fx r fs w (by simpa using hw)) ⟨.bl _, H, I, rfl, ?_⟩
    rw [show its.toArray.any (eqU x) = its.any (eqU x) by simp, any_eqU r fs]
    exact q

/-! ### len, list(x), tuple(x) of any list or tuple that is read -/
theorem call_len_seq : CallR X (.builtin "len") (fun xs H Q => ∃ p ys, xs = [.ref p] ∧ (SqL X.K H p ys ∨ SqT X.K H p ys) ∧ Q (.int ys.length) H) := by
  intro pins s σ H xs us Q I r h
  obtain ⟨p, ys, rfl, hq, q⟩ := h
  obtain ⟨u, rfl, rx⟩ := vals1 r
  cases rx
  have hn := line63
  rcases hq with hq | hq
  · obtain ⟨its, r', pl, hz⟩ := I.list hq
    have hlen := r'.length
    exact Calls.call_len_list pl.isList (by simp only [List.size_toArray] <;> omega) ⟨.int ys.length, H, I.tok _, ⟨s.toks + 1, by rw [List.size_toArray, hlen]⟩, q⟩
  · obtain ⟨its, r', pl, hz⟩ := I.tuple hq
    have hlen := r'.length
    exact len_tuple pl (by simp only [List.size_toArray] <;> omega) ⟨.int ys.length, H, I.tok _, ⟨s.toks + 1, by rw [List.size_toArray, hlen]⟩, q⟩
theorem call_len_str : CallR X (.builtin "len") (fun xs H Q => ∃ z, xs = [.str z] ∧ z.length ≤ sizeLine ∧ Q (.int z.length) H) := by
  intro pins s σ H xs us Q I r h
  obtain ⟨z, rfl, hz, q⟩ := h
  obtain ⟨u, rfl, t, rfl⟩ := vals1 r
  have hn := line63
  exact len_str (by omega) ⟨.int z.length, H, I.tok _, ⟨_, rfl⟩, q⟩
theorem call_list_of : CallR X (.type "list") (fun xs H Q => ∃ p ys, xs = [.ref p] ∧ (SqL X.K H p ys ∨ SqT X.K H p ys) ∧ ∀ l, H l = none → Q (.ref l) (upd H l (.lst ys))) := by
  intro pins s σ H xs us Q I r h
  obtain ⟨p, ys, rfl, hq, q⟩ := h
  obtain ⟨u, rfl, rx⟩ := vals1 r
  cases rx
  have fin : ∀ (its : List Value), Vals ys its → ys.length ≤ sizeLine → ∀ (h' : Heap) (c' : Nat), (∀ b o', s.heap.get? b = some o' → h'.get? b = some o') →
      h'.get? s.heap.objs.size = some { cls := .type "list", dict := none, data := .seq its.toArray c', slots := #[] } → EP X pins σ Q (.ref s.heap.objs.size) { s with heap := h' } := fun its r' hz h' c' kp e =>
    ⟨.ref s.heap.objs.size, _, I.laid (t' := s.toks) kp (Nat.le_refl _) (show ObjOk X.prog X.w _ h' _ (.lst ys) from ⟨hz, its, c', r', e⟩), rfl, q _ (I.hok.fresh (Nat.le_refl _))⟩
  rcases hq with hq | hq
  · obtain ⟨its, r', pl, hz⟩ := I.list hq
    have hlen := r'.length
    obtain ⟨o, ho, hc, n, hd⟩ := pl.isList
    exact call_list_seq p (.inl rfl) ho hc hd (fun h' c' kp e => fin its r' hz h' c' kp e) (by simp only [List.size_toArray] <;> omega)
  · obtain ⟨its, r', pl, hz⟩ := I.tuple hq
    have hlen := r'.length
    obtain ⟨o, ho, hc, n, hd⟩ := pl
    exact call_list_seq p (.inr rfl) ho hc hd (fun h' c' kp e => fin its r' hz h' c' kp e) (by simp only [List.size_toArray] <;> omega)
theorem call_tuple_of : CallR X (.type "tuple") (fun xs H Q => ∃ p ys, xs = [.ref p] ∧ ((SqL X.K H p ys ∧ ∀ l, H l = none → Q (.ref l) (upd H l (.tup ys))) ∨ (SqT X.K H p ys ∧ Q (.ref p) H))) := by
  intro pins s σ H xs us Q I r h
  obtain ⟨p, ys, rfl, h⟩ := h
  obtain ⟨u, rfl, rx⟩ := vals1 r
  cases rx
  rcases h with ⟨hq, q⟩ | ⟨hq, q⟩
  · obtain ⟨its, r', pl, hz⟩ := I.list hq
    have hlen := r'.length
    refine call_tuple_list pl.isList (fun h' kp => ?_) (by simp only [List.size_toArray] <;> omega)
    have I1 : Inv X pins σ H { s with heap := h' } := I.kept (t' := s.toks) kp
    have I2 : Inv X pins σ (upd H h'.objs.size (.tup ys)) { s with heap := h'.push { cls := .type "tuple", data := .seq its.toArray } } :=
      I1.laid (t' := s.toks) (fun b o e => Heap.get?_push_of_some _ e) (Nat.le_refl _) (show ObjOk X.prog X.w _ _ _ (.tup ys) from ⟨hz, its, r', IsTup.new _ _⟩)
    exact ⟨.ref h'.objs.size, _, I2, rfl, q _ (I1.hok.fresh (Nat.le_refl _))⟩
  · obtain ⟨its, r', pl, hz⟩ := I.tuple hq
    exact call_tuple_same pl ⟨.ref p, H, I, rfl, q⟩

/-! ### the call of a builtin's method: o.m(..) -/
/-- the value is of that builtin type -/
def tyV (K : PySem.W.Frag) (T : String) (x : V) (H : Hp) : Prop := match x with
  | .str _ => T = "str"
  | .int _ => T = "int"
  | .ref p => (T = "list" ∧ ∃ xs, SqL K H p xs) ∨ (T = "tuple" ∧ ∃ o, K.lookup p = some o ∧ o.cls = .type "tuple" ∧ o.dict = none) ∨
      (T = "dict" ∧ ((∃ kvs, H p = some (.dK kvs)) ∨ ∃ kvs, H p = some (.dT kvs))) ∨ (T = "set" ∧ ∃ S n, H p = some (.set S n))
  | _ => False
theorem tyV_is {pins : List (Addr × Obj)} {σ : St} {H : Hp} {s : Shared} {T : String} {x : V} {v : Value} (I : Inv X pins σ H s) (r : RelV x v) (ty : tyV X.K T x H) :
    s.TypeIs v T ∧ ∀ a, v = .ref a → ∃ ob, s.heap.get? a = some ob ∧ ob.dict = none := by
  cases x with
  | str z =>
    obtain ⟨t, rfl⟩ := r
    cases (show T = "str" from ty)
    exact ⟨typeIs_str s z t, fun _ e => nomatch e⟩
  | int i =>
    obtain ⟨t, rfl⟩ := r
    cases (show T = "int" from ty)
    exact ⟨typeIs_int s i t, fun _ e => nomatch e⟩
  | ref p =>
    cases r
    rcases ty with ⟨rfl, xs, hq⟩ | ⟨rfl, o, hk, hc, hd⟩ | ⟨rfl, hk⟩ | ⟨rfl, S, n, hk⟩
    · obtain ⟨its, _, pl, _⟩ := I.list hq
      refine ⟨pl.isList.typeIs, fun a e => ?_⟩
      cases e
      obtain ⟨o, n, e, c, hd, _⟩ := pl
      exact ⟨o, e, hd⟩
    · refine ⟨⟨o, I.kIn p o hk, hc⟩, fun a e => ?_⟩
      cases e
      exact ⟨o, I.kIn _ o hk, hd⟩
    · have z : ∃ o, s.heap.get? p = some o ∧ o.ExactDict := by
        rcases hk with ⟨kvs, hk⟩ | ⟨kvs, hk⟩
        · obtain ⟨_, _, _, _, o, _, _, e, ex, _⟩ := I.hok p _ hk
          exact ⟨o, e, ex⟩
        · obtain ⟨_, _, _, _, o, _, _, e, ex, _⟩ := I.hok p _ hk
          exact ⟨o, e, ex⟩
      obtain ⟨o, e, ex⟩ := z
      refine ⟨⟨o, e, ex.1⟩, fun a e2 => ?_⟩
      cases e2
      exact ⟨o, e, ex.2.1⟩
    · obtain ⟨o, _, _, _, e, ex, _⟩ := I.hok p _ hk
      refine ⟨⟨o, e, ex.1⟩, fun a e2 => ?_⟩
      cases e2
      exact ⟨o, e, ex.2.1⟩
  | _ => exact False.elim ty
def tBM0 (K : PySem.W.Frag) (T : String) (r : V → List V → Hp → VK → Prop) (to : TE) : TE := fun σ H Q => to σ H fun x H1 => tyV K T x H1 ∧ r x [] H1 Q
def tBM (K : PySem.W.Frag) (T : String) (r : V → List V → Hp → VK → Prop) (to : TE) (t : TA) : TE := fun σ H Q => to σ H fun x H1 => tyV K T x H1 ∧ t σ H1 fun xs H2 => r x xs H2 Q
variable {o e : Expr} {es : List Expr} {to : TE} {t : TA} {name : Str} {apos cpos : Pos} {T id : String} {r : V → List V → Hp → VK → Prop}
theorem pe_bm0 (pa : PlainAttrs T) (slot : Slot T name id) (hty : typeOf (.builtin id) = pure (.type "method_descriptor")) (hm : MtR X id r) (ho : PE X o to)
    (hbase : attributeBase o name X.env (eval o X.env) = eval o X.env := by rfl) (hline : (apos.endLine == cpos.line) = true := by rfl) : PE X (.Call (.Attribute o name apos) [] [] cpos) (tBM0 X.K T r to) := by
  intro pins s σ H Q I h
  refine wpAny_Call_method0_late hbase hline (thn (ho pins s σ H _ I h) fun v s1 ⟨x, H1, I1, r1, ty, q1⟩ => ?_)
  obtain ⟨h1, h2⟩ := tyV_is I1 r1 ty
  exact ⟨T, id, pa, slot, hty, h1, h2, Calls.callWith_builtin rfl (PySem.evalArgs_none (hm pins s1 σ H1 x [] v [] Q I1 r1 .nil q1))⟩
theorem pe_bm (pa : PlainAttrs T) (slot : Slot T name id) (hty : typeOf (.builtin id) = pure (.type "method_descriptor")) (hm : MtR X id r) (ho : PE X o to) (ha : PA X (e :: es) t)
    (hbase : attributeBase o name X.env (eval o X.env) = eval o X.env := by rfl)
    (hfew : ((backTo cpos (starEach (e :: es) X.env)).all (fun x => !x.1) && (backToKw cpos (keywordEach [] X.env)).all (fun x => x.1.isSome)
      && decide ((e :: es).length + ([] : List Keyword).length + (if ([] : List Keyword).isEmpty then 0 else 1) < 30)) = true := by rfl)
    (hline : (apos.endLine == cpos.line) = true := by rfl) (hs : starEach (e :: es) X.env = (false, eval e X.env) :: starEach es X.env := by rfl) (hplain : (backTo cpos (starEach es X.env)).any (·.1) = false := by rfl) :
    PE X (.Call (.Attribute o name apos) (e :: es) [] cpos) (tBM X.K T r to t) := by
  intro pins s σ H Q I h
  refine wpAny_Call_method_late hbase hfew hline rfl (thn (ho pins s σ H _ I h) fun v s1 ⟨x, H1, I1, r1, ty, q1⟩ => ?_)
  obtain ⟨h1, h2⟩ := tyV_is I1 r1 ty
  refine ⟨T, id, pa, slot, hty, h1, h2, ?_⟩
  have hA := ha cpos pins s1 σ H1 _ I1 q1
  rw [hs] at hA ⊢
  refine Calls.callWith_builtin (by show (false || (backTo cpos (starEach es X.env)).any (·.1)) = false; rw [hplain] <;> rfl) (Calls.evalArgs_plain ?_)
  exact thn hA fun us s2 ⟨vs, H2, I2, r2, q2⟩ => hm pins s2 σ H2 x vs v us Q I2 r1 r2 q2
/- xs.append(e), list.index on a module's tuple .. are MtR facts of 06m -/
end
end L2

namespace L2
open PySem PySem.Spec PyProof.Rows

def MtM (X : Cx) (id : String) (r : V → List V → Hp → VK → Prop) : Prop :=
  ∀ (pins : List (Addr × Obj)) (s : Shared) (σ : St) (H : Hp) (x : V) (xs : List V) (v : Value) (us : List Value) (Q : VK), Inv X pins σ H s → RelV x v → Vals xs us → r x xs H Q →
    wpAny (model X.prog X.w) X.A (call (.builtin id) (v :: us)) (EP X pins σ Q) X.xe s

/-! ### lists of values -/
theorem Vals.one : ∀ {x : V} {us : List Value}, Vals [x] us → ∃ u, us = [u] ∧ RelV x u
  | _, _, .cons r .nil => ⟨_, rfl, r⟩
theorem Vals.zero : ∀ {us : List Value}, Vals [] us → us = []
  | _, .nil => rfl
theorem Vals.dropLast {xs : List V} {us : List Value} (h : Vals xs us) : Vals xs.dropLast us.dropLast := by
  induction h with
  | nil => exact .nil
  | cons r t ih =>
    cases t with
    | nil => exact .nil
    | cons q t' => exact .cons r ih
theorem Vals.reverse {xs : List V} {us : List Value} (h : Vals xs us) : Vals xs.reverse us.reverse := by
  induction h with
  | nil => exact .nil
  | cons r t ih => rw [List.reverse_cons, List.reverse_cons]; exact Vals.append ih (.cons r .nil)
theorem erase_last {α : Type} (l : List α) : l.eraseIdx (l.length - 1) = l.dropLast := by
  induction l with
  | nil => rfl
  | cons a r ih =>
    cases r with
    | nil => rfl
    | cons b r =>
      have e : (a :: b :: r).length - 1 = ((b :: r).length - 1) + 1 := by
        have h1 : (a :: b :: r).length = r.length + 2 := rfl
        have h2 : (b :: r).length = r.length + 1 := rfl
        omega
      rw [e, List.eraseIdx_cons_succ, ih]
      all_goals rfl

section
variable {X : Cx} {pins : List (Addr × Obj)} {σ : St} {H : Hp} {s : Shared} {l b : Addr} {xs ys zs : List V}

/-! ### the two steps: a tracked list is rewritten, a new list is laid -/
theorem Inv.lset {its its' : List Value} {n : Nat} {f : Array Value → Array Value} {t' : Nat} (I : Inv X pins σ H s) (hH : H l = some (.lst xs))
    (e : s.heap.get? l = some { cls := .type "list", data := .seq its.toArray n }) (hf : f its.toArray = its'.toArray) (hv : Vals ys its') (hz : ys.length ≤ sizeLine) :
    Inv X pins σ (upd H l (.lst ys)) { s with heap := s.heap.update l (Obj.mapSeq f), toks := t' } := by
  have q := PySem.IsL.update e f
  rw [hf] at q
  refine I.write (x := l) (e := l) (by rw [hH]; exact trivial) (.inl rfl) (fun b' u hb hu => (Heap.get?_update_other s.heap (Obj.mapSeq f) (Ne.symm hb)).trans hu) ⟨_, q⟩ ?_
  exact ⟨hz, its', _, hv, q⟩
theorem Inv.lnew {its : List Value} {t' : Nat} (I : Inv X pins σ H s) (hv : Vals ys its) (hz : ys.length ≤ sizeLine) :
    Inv X pins σ (upd H s.heap.objs.size (.lst ys)) { s with heap := s.heap.push { cls := .type "list", data := .seq its.toArray }, toks := t' } :=
  I.laid (fun _ _ q => Heap.get?_push_of_some _ q) (Nat.le_refl _) ⟨hz, its, 0, hv, Heap.get?_push_size _ rfl⟩
theorem Inv.fresh (I : Inv X pins σ H s) : H s.heap.objs.size = none := I.hok.fresh (Nat.le_refl _)
theorem Inv.lstM (I : Inv X pins σ H s) (hH : H l = some (.lst xs)) : xs.length ≤ sizeLine ∧ ∃ (its : List Value) (n : Nat), Vals xs its ∧ xs.length = its.length ∧ s.heap.get? l = some { cls := .type "list", data := .seq its.toArray n } := by
  obtain ⟨z, its, n, r, e⟩ := I.hok l _ hH
  exact ⟨z, its, n, r, r.length, e⟩

theorem notLongL {n : Nat} (h : n ≤ sizeLine) : Builtin.List.listTooLong n = false := by
  unfold Builtin.List.listTooLong
  exact decide_eq_false (by omega)
end

section
variable {X : Cx}

/-! ### methods -/
def rAppend : V → List V → Hp → VK → Prop := fun x vs H Q => ∃ l xs y, x = .ref l ∧ vs = [y] ∧ H l = some (.lst xs) ∧ xs.length < sizeLine ∧ Q .non (upd H l (.lst (xs ++ [y])))
theorem mt_append : MtM X "list.append" rAppend := by
  intro pins s σ H x vs v us Q I rx rv h
  obtain ⟨l, xs, y, rfl, rfl, hH, hz, q⟩ := h
  cases rx
  obtain ⟨u, rfl, ru⟩ := rv.one
  obtain ⟨z, its, n, r, hl, e⟩ := I.lstM hH
  refine call_meets F.slot_list_append ⟨_, e, rfl⟩ F.entry_list_append (F.args_list_append_2 _ _) (PySem.list_append l its.toArray n u (by rw [List.size_toArray]; omega)) ⟨e, ?_⟩
  refine ⟨.non, _, I.lset (its' := its ++ [u]) hH e (by simp) (r.append (.cons ru .nil)) ?_, rfl, q⟩
  rw [List.length_append, List.length_singleton]
  omega

def rExtend : V → List V → Hp → VK → Prop := fun x vs H Q => ∃ l b xs zs, x = .ref l ∧ vs = [.ref b] ∧ H l = some (.lst xs) ∧ H b = some (.lst zs) ∧ xs.length + zs.length ≤ sizeLine ∧ Q .non (upd H l (.lst (xs ++ zs)))
theorem mt_extend : MtM X "list.extend" rExtend := by
  intro pins s σ H x vs v us Q I rx rv h
  obtain ⟨l, b, xs, zs, rfl, rfl, hH, hB, hz, q⟩ := h
  cases rx
  obtain ⟨u, rfl, ru⟩ := rv.one
  cases ru
  obtain ⟨z, its, n, r, hl, e⟩ := I.lstM hH
  obtain ⟨z2, its2, n2, r2, hl2, e2⟩ := I.lstM hB
  have hsz : its.toArray.size + its2.toArray.size ≤ sizeLine := by rw [List.size_toArray, List.size_toArray]; omega
  have hlong : ¬ (!its.toArray.isEmpty && Builtin.List.listTooLong (its.toArray.size + its2.toArray.size)) = true := by
    rw [notLongL hsz, Bool.and_false]
    exact Bool.false_ne_true
  refine call_meets F.slot_list_extend ⟨_, e, rfl⟩ F.entry_list_extend (F.args_list_extend_2 _ _)
    (AutoSeq1.list_extend_list_list_0 l its.toArray n b its2.toArray n2 hlong (by rw [List.size_toArray]; omega) (by omega)) ⟨e, e2, ?_⟩
  refine ⟨.non, _, I.lset (its' := its ++ its2) hH e (by simp) (r.append r2) ?_, rfl, q⟩
  rw [List.length_append]
  omega

def rPop : V → List V → Hp → VK → Prop := fun x vs H Q => ∃ l xs y, x = .ref l ∧ vs = [] ∧ H l = some (.lst xs) ∧ xs[xs.length - 1]? = some y ∧ Q y (upd H l (.lst xs.dropLast))
theorem mt_pop : MtM X "list.pop" rPop := by
  intro pins s σ H x vs v us Q I rx rv h
  obtain ⟨l, xs, y, rfl, rfl, hH, hy, q⟩ := h
  cases rx
  have hus := rv.zero
  subst hus
  obtain ⟨z, its, n, r, hl, e⟩ := I.lstM hH
  obtain ⟨u, hu, ru⟩ := r.get hy
  have hy' : its.toArray[its.toArray.size - 1]? = some u := by
    show its.toArray[its.length - 1]? = some u
    rw [← Array.getElem?_toList, ← hl]
    exact hu
  refine call_meets F.slot_list_pop ⟨_, e, rfl⟩ F.entry_list_pop (F.args_list_pop_1 _) (MeetsSeq.list_pop_last l its.toArray n u hy' (by rw [List.size_toArray]; omega)) ⟨e, ?_⟩
  refine ⟨y, _, I.lset (its' := its.dropLast) hH e ?_ r.dropLast ?_, ru, q⟩
  · show its.toArray.eraseIdxIfInBounds (its.toArray.size - 1) = its.dropLast.toArray
    rw [List.size_toArray, List.eraseIdxIfInBounds_toArray, erase_last]
  · rw [List.length_dropLast]
    omega




/-! ### list + list, list += list, list * int -/
def rCat : R2 := fun x y H Q => ∃ l b xs zs, x = .ref l ∧ y = .ref b ∧ H l = some (.lst xs) ∧ H b = some (.lst zs) ∧ xs.length + zs.length ≤ sizeLine ∧ ∀ p, H p = none → Q (.ref p) (upd H p (.lst (xs ++ zs)))
theorem op_cat : OpR X (binaryOp .Add) rCat := by
  intro pins s σ H x y v u Q I rx ry h
  obtain ⟨l, b, xs, zs, rfl, rfl, hH, hB, hz, q⟩ := h
  cases rx
  cases ry
  obtain ⟨z, its, n, r, hl, e⟩ := I.lstM hH
  obtain ⟨z2, its2, n2, r2, hl2, e2⟩ := I.lstM hB
  refine PySem.P.add_list e e2 ?_ (by rw [List.size_toArray, List.size_toArray]; omega)
  have ea : its.toArray ++ its2.toArray = (its ++ its2).toArray := by simp
  rw [ea]
  exact ⟨.ref _, _, I.lnew (t' := s.toks) (r.append r2) (by rw [List.length_append]; omega), rfl, q _ I.fresh⟩

/-! ### del xs[i] -/
end

/-! ### xs[a:b] = ys -/
section
variable {prog : Program} {w : World} {A : Around} {E : Value → Shared → Prop} {s : Shared}
end

section
variable {X : Cx}
end
end L2

namespace L2
open PySem PySem.Spec PyProof.Rows

/-! ### lists of pairs as tables -/
section
variable {κ : Type} [DecidableEq κ]
def valV (kvs : List (κ × V)) (k : κ) : Option V := (kvs.find? fun kv => decide (kv.1 = k)).map (·.2)
/-- in its place, or at the end -/
def putK (kvs : List (κ × V)) (k : κ) (v : V) : List (κ × V) :=
  if (kvs.any fun kv => decide (kv.1 = k)) = true then kvs.map (fun kv => if kv.1 = k then (kv.1, v) else kv) else kvs ++ [(k, v)]

theorem valV_pos {p : κ × V} {r : List (κ × V)} {k : κ} (e : p.1 = k) : valV (p :: r) k = some p.2 := by simp [valV, List.find?_cons, e]
theorem valV_neg {p : κ × V} {r : List (κ × V)} {k : κ} (e : ¬ p.1 = k) : valV (p :: r) k = valV r k := by simp [valV, List.find?_cons, e]
theorem valV_any (k : κ) : ∀ kvs : List (κ × V), (kvs.any fun kv => decide (kv.1 = k)) = (valV kvs k).isSome
  | [] => rfl
  | p :: r => by
    rw [List.any_cons]
    by_cases e : p.1 = k
    · simp only [valV_pos e, decide_eq_true e, Bool.true_or, Option.isSome_some]
    · rw [valV_neg e, decide_eq_false e, Bool.false_or]; exact valV_any k r
theorem valV_map (k j : κ) (y : V) : ∀ kvs : List (κ × V), valV (kvs.map fun kv => if kv.1 = k then (kv.1, y) else kv) j = (valV kvs j).map fun x => if j = k then y else x
  | [] => rfl
  | p :: r => by
    have ih := valV_map k j y r
    rw [List.map_cons]
    by_cases h : p.1 = k
    · rw [if_pos h]
      by_cases e : p.1 = j
      · rw [valV_pos (p := (p.1, y)) e, valV_pos e, Option.map_some, if_pos (e.symm.trans h)]
      · rw [valV_neg (p := (p.1, y)) e, valV_neg e, ih]
    · rw [if_neg h]
      by_cases e : p.1 = j
      · rw [valV_pos (p := p) e, valV_pos e, Option.map_some, if_neg (fun z => h (e.trans z))]
      · rw [valV_neg (p := p) e, valV_neg e, ih]
theorem valV_snoc (k j : κ) (y : V) : ∀ kvs : List (κ × V), valV kvs k = none → valV (kvs ++ [(k, y)]) j = if j = k then some y else valV kvs j
  | [], _ => by
    by_cases e : k = j
    · rw [if_pos e.symm]; exact valV_pos (p := (k, y)) e
    · rw [if_neg (fun z => e z.symm)]; exact valV_neg (p := (k, y)) e
  | p :: r, hn => by
    rw [List.cons_append]
    have hk : ¬ p.1 = k := fun z => by rw [valV_pos z] at hn; cases hn
    rw [valV_neg hk] at hn
    have ih := valV_snoc k j y r hn
    by_cases e : p.1 = j
    · rw [valV_pos e, valV_pos e, if_neg (fun z => hk (e.trans z))]
    · rw [valV_neg e, valV_neg e, ih]
theorem valV_put (kvs : List (κ × V)) (k j : κ) (y : V) : valV (putK kvs k y) j = if j = k then some y else valV kvs j := by
  unfold putK
  by_cases a : (kvs.any fun kv => decide (kv.1 = k)) = true
  · rw [if_pos a, valV_map]
    rw [valV_any] at a
    by_cases e : j = k
    · obtain ⟨x, hx⟩ := Option.isSome_iff_exists.mp a
      rw [if_pos e, e, hx, Option.map_some, if_pos rfl]
    · rw [if_neg e]
      cases valV kvs j with
      | none => rfl
      | some x => rw [Option.map_some, if_neg e]
  · rw [if_neg a]
    refine valV_snoc k j y kvs ?_
    rw [valV_any] at a
    cases q : valV kvs k with
    | none => rfl
    | some x => rw [q] at a; exact (a rfl).elim
theorem length_putK (kvs : List (κ × V)) (k : κ) (v : V) : (putK kvs k v).length ≤ kvs.length + 1 := by
  unfold putK
  split
  · rw [List.length_map]; omega
  · rw [List.length_append, List.length_cons, List.length_nil]; omega
theorem putK_new {kvs : List (κ × V)} {k : κ} (v : V) (h : valV kvs k = none) : putK kvs k v = kvs ++ [(k, v)] := by
  unfold putK
  rw [valV_any, h]
  exact if_neg (by decide)

theorem RelO.isSome_eq {o : Option V} {u : Option Value} (r : RelO o u) : o.isSome = u.isSome := by
  cases o with
  | none => cases u with
    | none => rfl
    | some _ => exact (show False from r).elim
  | some _ => cases u with
    | none => exact (show False from r).elim
    | some _ => rfl

/-- raw tables of the same keys -/
theorem KV.val {kvs : List (κ × V)} {vs : List (κ × Value)} (r : KV kvs vs) (k : κ) : RelO (valV kvs k) (valueAt vs k) := by
  unfold KV at r
  induction r with
  | nil => exact True.intro
  | @cons p q ps qs h t ih =>
    obtain ⟨h1, h2⟩ := h
    by_cases e : p.1 = k
    · have e' : q.1 = k := h1.symm.trans e
      have b : valueAt (q :: qs) k = some q.2 := by simp [valueAt, List.find?_cons, e']
      rw [valV_pos e, b]; exact h2
    · have e' : ¬ q.1 = k := fun z => e (h1.trans z)
      have b : valueAt (q :: qs) k = valueAt qs k := by simp [valueAt, List.find?_cons, e']
      rw [valV_neg e, b]; exact ih
theorem KV.any {kvs : List (κ × V)} {vs : List (κ × Value)} (r : KV kvs vs) (k : κ) : (kvs.any fun kv => decide (kv.1 = k)) = vs.any fun kv => decide (kv.1 = k) := by
  unfold KV at r
  induction r with
  | nil => rfl
  | cons h t ih => rw [List.any_cons, List.any_cons, ih, h.1]
theorem KV.repl {kvs : List (κ × V)} {vs : List (κ × Value)} (r : KV kvs vs) (k : κ) {y : V} {u : Value} (ry : RelV y u) :
    KV (kvs.map fun kv => if kv.1 = k then (kv.1, y) else kv) (vs.map fun kv => if kv.1 = k then (kv.1, u) else kv) := by
  unfold KV at r ⊢
  induction r with
  | nil => exact .nil
  | @cons p q ps qs h t ih =>
    rw [List.map_cons, List.map_cons]
    refine .cons ?_ ih
    obtain ⟨h1, h2⟩ := h
    by_cases e : p.1 = k
    · rw [if_pos e, if_pos (h1.symm.trans e)]; exact ⟨h1, ry⟩
    · rw [if_neg e, if_neg (fun z => e (h1.trans z))]; exact ⟨h1, h2⟩
theorem KV.put {kvs : List (κ × V)} {vs : List (κ × Value)} (r : KV kvs vs) (k : κ) {y : V} {u : Value} (ry : RelV y u) : KV (putK kvs k y) (stored vs k u) := by
  unfold putK stored
  rw [r.any k]
  by_cases e : (vs.any fun kv => decide (kv.1 = k)) = true
  · rw [if_pos e, if_pos e]; exact r.repl k ry
  · rw [if_neg e, if_neg e]; exact Paired.snoc r ⟨rfl, ry⟩
theorem KV.keys {kvs : List (κ × V)} {vs : List (κ × Value)} (r : KV kvs vs) : kvs.map (·.1) = vs.map (·.1) := by
  unfold KV at r
  induction r with
  | nil => rfl
  | cons h t ih => rw [List.map_cons, List.map_cons, ih, h.1]
theorem KV.length {kvs : List (κ × V)} {vs : List (κ × Value)} (r : KV kvs vs) : kvs.length = vs.length := Paired.length r
end


/-! ### a tracked dict, its keys ints and texts or tuples of these -/
theorem kV_is {P : Program} {w : World} {k : Key} {u : Value} (r : RelV (kV k) u) : (mixKind P w).is k u = true := by
  cases k with
  | inl i => obtain ⟨t, e⟩ := (show ∃ t, u = Value.int i t from r); subst e; exact mixKind_int P w i t
  | inr x => obtain ⟨t, e⟩ := (show ∃ t, u = Value.str x t from r); subst e; exact mixKind_str P w x t
theorem items_are {P : Program} {w : World} : ∀ {ks : List Key} {us : List Value}, Vals (ks.map kV) us → ItemsAre (mixKind P w) ks us
  | [], _, r => by rw [List.map_nil] at r; cases r; exact .nil
  | k :: ks, _, r => by
    rw [List.map_cons] at r
    cases r with
    | cons h t => exact .cons (kV_is h) (items_are t)

/-- raw entries of a dict with tuple keys -/
abbrev KT (H : Hp) : List (List Key × V) → List (List Key × Addr × Value) → Prop := Paired fun p q => p.1 = q.1 ∧ H q.2.1 = some (.tup (p.1.map kV)) ∧ RelV p.2 q.2.2
theorem KT.val {H : Hp} {kvs : List (List Key × V)} {xs : List (List Key × Addr × Value)} (r : KT H kvs xs) (k : List Key) : RelO (valV kvs k) ((atKey xs k).map (·.2)) := by
  induction r with
  | nil => exact True.intro
  | @cons p q ps qs h t ih =>
    obtain ⟨h1, _, h2⟩ := h
    by_cases e : p.1 = k
    · have e' : q.1 = k := h1.symm.trans e
      have b : atKey (q :: qs) k = some q.2 := by simp [atKey, List.find?_cons, e']
      rw [valV_pos e, b]; exact h2
    · have e' : ¬ q.1 = k := fun z => e (h1.trans z)
      have b : atKey (q :: qs) k = atKey qs k := by simp [atKey, List.find?_cons, e']
      rw [valV_neg e, b]; exact ih
theorem KT.repl {H : Hp} {kvs : List (List Key × V)} {xs : List (List Key × Addr × Value)} (r : KT H kvs xs) (k : List Key) {y : V} {u : Value} (ry : RelV y u) :
    KT H (kvs.map fun kv => if kv.1 = k then (kv.1, y) else kv) (xs.map (putAt k u)) := by
  induction r with
  | nil => exact .nil
  | @cons p q ps qs h t ih =>
    rw [List.map_cons, List.map_cons]
    refine .cons ?_ ih
    obtain ⟨h1, h2, h3⟩ := h
    unfold putAt
    by_cases e : p.1 = k
    · rw [if_pos e, if_pos (h1.symm.trans e)]; exact ⟨h1, h2, ry⟩
    · rw [if_neg e, if_neg (fun z => e (h1.trans z))]; exact ⟨h1, h2, h3⟩
theorem KT.put {H : Hp} {kvs : List (List Key × V)} {xs : List (List Key × Addr × Value)} (r : KT H kvs xs) (k : List Key) {b : Addr} {y : V} {u : Value} (hb : H b = some (.tup (k.map kV))) (ry : RelV y u) :
    KT H (putK kvs k y) (storedH xs k b u) := by
  have e : (kvs.any fun kv => decide (kv.1 = k)) = (atKey xs k).isSome := by
    rw [valV_any, (r.val k).isSome_eq, Option.isSome_map]
  unfold putK storedH
  rw [e]
  by_cases q : (atKey xs k).isSome = true
  · rw [if_pos q, if_pos q]; exact r.repl k ry
  · rw [if_neg q, if_neg q]; exact Paired.snoc r ⟨rfl, hb, ry⟩
theorem KT.keeps {H H' : Hp} {kvs : List (List Key × V)} {xs : List (List Key × Addr × Value)} (r : KT H kvs xs) (ht : ∀ b ys, H b = some (.tup ys) → H' b = some (.tup ys)) : KT H' kvs xs :=
  Paired.mapP r fun _ _ z => ⟨z.1, ht _ _ z.2.1, z.2.2⟩

section
variable {P : Program} {w : World} {H : Hp} {h : Heap} {a : Addr}
theorem rd_of {u : HO} (ok : HOk P w H h) (e : Rd H a u) : ObjOk P w H h a u := e.ok ok
theorem dk_rd {kvs : List (Key × V)} (ok : HOk P w H h) (e : Rd H a (.dK kvs)) : kvs.length ≤ sizeLine ∧ (a == sysModules) = false ∧ ∃ vs, KV kvs vs ∧ h.DictOf (mixKind P w) a vs :=
  show ObjOk P w H h a (.dK kvs) from rd_of ok e
theorem dk_of {kvs : List (Key × V)} (ok : HOk P w H h) (e : H a = some (.dK kvs)) : kvs.length ≤ sizeLine ∧ (a == sysModules) = false ∧ ∃ vs, KV kvs vs ∧ h.DictOf (mixKind P w) a vs := dk_rd ok (.inl e)
/-- a tracked tuple of ints and texts is a key -/
theorem key_of {ks : List Key} (ok : HOk P w H h) (e : H a = some (.tup (ks.map kV))) : (tupleKind (mixKind P w)).is h ks a := by
  obtain ⟨_, its, r, o, h1, h2, n, h3⟩ := (show ObjOk P w H h a (.tup (ks.map kV)) from ok a _ e)
  exact ⟨o, its.toArray, n, h1, h2, h3, by simpa using items_are r⟩
theorem dt_rd {kvs : List (List Key × V)} (ok : HOk P w H h) (e : Rd H a (.dT kvs)) : kvs.length ≤ sizeLine ∧ (a == sysModules) = false ∧
    ∃ xs, KT H kvs xs ∧ h.DictOfH (tupleKind (mixKind P w)) a xs := by
  obtain ⟨z, y, xs, r, o, es, ep, h1, h2, h3, h4, h5⟩ := (show ObjOk P w H h a (.dT kvs) from rd_of ok e)
  refine ⟨z, y, xs, r, o, es, ep, h1, h2, h3, h4, fun x hx => ?_, h5⟩
  have all : ∀ {l : List (List Key × V)} {m : List (List Key × Addr × Value)}, KT H l m → ∀ x ∈ m, (tupleKind (mixKind P w)).is h x.1 x.2.1 := by
    intro l m q
    induction q with
    | nil => intro x hx; exact nomatch hx
    | @cons p q ps qs hq t ih =>
      intro x hx
      rcases List.mem_cons.mp hx with e | hx
      · subst e
        exact key_of ok (by rw [← hq.1]; exact hq.2.1)
      · exact ih x hx
  exact all r x hx
theorem dt_of {kvs : List (List Key × V)} (ok : HOk P w H h) (e : H a = some (.dT kvs)) : kvs.length ≤ sizeLine ∧ (a == sysModules) = false ∧
    ∃ xs, KT H kvs xs ∧ h.DictOfH (tupleKind (mixKind P w)) a xs := dt_rd ok (.inl e)
end

/-- what the dict at a holds at the key y -/
def DGet (H : Hp) (a : Addr) (y : V) (r : Option V) : Prop :=
  (∃ kvs k, Rd H a (.dK kvs) ∧ y = kV k ∧ r = valV kvs k) ∨ ∃ kvs k b, Rd H a (.dT kvs) ∧ y = .ref b ∧ H b = some (.tup (k.map kV)) ∧ r = valV kvs k
/-- the heap behind a[y] = v -/
def DPut (H : Hp) (a : Addr) (y v : V) (H' : Hp) : Prop :=
  (∃ kvs k, H a = some (.dK kvs) ∧ y = kV k ∧ kvs.length < sizeLine ∧ H' = upd H a (.dK (putK kvs k v))) ∨
  ∃ kvs k b, H a = some (.dT kvs) ∧ y = .ref b ∧ H b = some (.tup (k.map kV)) ∧ kvs.length < sizeLine ∧ H' = upd H a (.dT (putK kvs k v))
theorem DGet.k {H : Hp} {a : Addr} {kvs : List (Key × V)} {k : Key} (e : H a = some (.dK kvs)) : DGet H a (kV k) (valV kvs k) := .inl ⟨kvs, k, .inl e, rfl, rfl⟩
theorem DPut.k {H : Hp} {a : Addr} {kvs : List (Key × V)} {k : Key} {v : V} (e : H a = some (.dK kvs)) (hl : kvs.length < sizeLine) : DPut H a (kV k) v (upd H a (.dK (putK kvs k v))) := .inl ⟨kvs, k, e, rfl, hl, rfl⟩


section
variable {X : Cx} {pins : List (Addr × Obj)} {σ : St} {H : Hp} {s : Shared} {a : Addr} {y v : V} {u r : Value} {o : Option V} {A : Around} {E : Value → Shared → Prop}

theorem Inv.big (I : Inv X pins σ H s) : sysModules < s.heap.objs.size := by
  have h : mainGlobals < s.heap.objs.size := (I.mod.glob.keeps I.bk).lt
  exact Nat.lt_trans (by decide) h

/-- d[y], there -/
theorem d_getItem {Q : Value → Shared → Prop} (hu : A.units + 1 < cLine) (I : Inv X pins σ H s) (g : DGet H a y (some v)) (ry : RelV y u) (h : ∀ w' s', Inv X pins σ H s' → RelV v w' → Q w' s') :
    wpAny (model X.prog X.w) A (getItem (.ref a) u) Q E s := by
  rcases g with ⟨kvs, k, e, ey, l⟩ | ⟨kvs, k, b, e, ey, eb, l⟩
  · subst ey
    obtain ⟨z, hd, vs, rel, dd⟩ := dk_rd I.hok e
    obtain ⟨w', hw, rw'⟩ := RelO.some_of (v := v) (o := valueAt vs k) (by rw [l]; exact rel.val k)
    exact wpAny_getItem_of (kV_is ry) dd.mapOf hw (h w' _ (I.tok _) rw')
  · subst ey
    cases (show u = Value.ref b from ry)
    obtain ⟨z, hd, xs, rel, dd⟩ := dt_rd I.hok e
    obtain ⟨w', hw, rw'⟩ := RelO.some_of (v := v) (o := (atKey xs k).map (·.2)) (by rw [l]; exact rel.val k)
    obtain ⟨p, hp, hp2⟩ := Option.map_eq_some_iff.mp hw
    refine wpAny_getItem_heap (tupleKind_room_in1 hu) (key_of I.hok eb) dd hp ?_
    rw [hp2]
    exact h w' _ (I.tok _) rw'
/-- y in d -/
theorem d_in {Q : Value → Shared → Prop} (hu : A.units + 1 < cLine) (I : Inv X pins σ H s) (g : DGet H a y o) (ry : RelV y u) (h : ∀ s', Inv X pins σ H s' → Q (.bool o.isSome) s') :
    wpAny (model X.prog X.w) A (compareOp .In u (.ref a)) Q E s := by
  rcases g with ⟨kvs, k, e, ey, l⟩ | ⟨kvs, k, b, e, ey, eb, l⟩
  · subst ey
    obtain ⟨z, hd, vs, rel, dd⟩ := dk_rd I.hok e
    refine wpAny_in_of (kV_is ry) hd dd.mapOf ?_
    rw [← (rel.val k).isSome_eq, ← l]
    exact h _ (I.tok _)
  · subst ey
    cases (show u = Value.ref b from ry)
    obtain ⟨z, hd, xs, rel, dd⟩ := dt_rd I.hok e
    refine wpAny_in_heap (tupleKind_room_in1 hu) (key_of I.hok eb) hd dd ?_
    have q := (rel.val k).isSome_eq
    rw [Option.isSome_map] at q
    rw [← q, ← l]
    exact h _ (I.tok _)
/-- a dict's object is replaced -/
theorem d_write {h' : Heap} {t' : Nat} {ob : HO} (I : Inv X pins σ H s) (mu : Mut (H a)) (hs : Heap.SameBut a s.heap h') (he : ∃ q, h'.get? a = some q) (new : ObjOk X.prog X.w (upd H a ob) h' a ob) :
    Inv X pins σ (upd H a ob) { s with heap := h', toks := t' } :=
  I.write (x := a) (e := a) mu (.inl rfl) (fun b q hb z => (hs.2 b hb).trans z) he new
theorem dk_new {P : Program} {w : World} {H' : Hp} {h' : Heap} {kvs : List (Key × V)} {vs : List (Key × Value)} (z : kvs.length ≤ sizeLine) (hd : (a == sysModules) = false) (rel : KV kvs vs) (dd : h'.DictOf (mixKind P w) a vs) :
    ObjOk P w H' h' a (.dK kvs) := ⟨z, hd, vs, rel, dd⟩
/-- d[y] = v -/
theorem d_setItem {H' : Hp} {Q : Unit → Shared → Prop} (hu : A.units + 1 < cLine) (I : Inv X pins σ H s) (g : DPut H a y v H') (ry : RelV y u) (rv : RelV v r) (h : ∀ s', Inv X pins σ H' s' → Q () s') :
    wpAny (model X.prog X.w) A (setItem (.ref a) u r) Q E s := by
  rcases g with ⟨kvs, k, e, ey, l, eH⟩ | ⟨kvs, k, b, e, ey, eb, l, eH⟩
  · subst ey eH
    obtain ⟨z, hd, vs, rel, dd⟩ := dk_of I.hok e
    have hz : vs.length ≤ sizeLine := by rw [← rel.length]; exact z
    have hl : (putK kvs k v).length ≤ sizeLine := by have := length_putK kvs k v; omega
    refine wpAny_setItem_pairs (hsz := hz) (kV_is ry) dd fun h' dd' hs => h _ ?_
    have he : ∃ q, h'.get? a = some q := let ⟨q, _, _, hq, _⟩ := dd'; ⟨q, hq⟩
    exact d_write I (by rw [e]; exact True.intro) hs he (dk_new hl hd (rel.put k rv) dd')
  · subst ey eH
    cases (show u = Value.ref b from ry)
    obtain ⟨z, hd, xs, rel, dd⟩ := dt_of I.hok e
    have hz : xs.length ≤ sizeLine := by rw [← Paired.length rel]; exact z
    have hl : (putK kvs k v).length ≤ sizeLine := by have := length_putK kvs k v; omega
    refine wpAny_setItem_heap (hsz := hz) (tupleKind_room_in1 hu) (key_of I.hok eb) dd fun h' dd' hs => h _ ?_
    obtain ⟨q, es, ep, hq, h2, h3, h4, _, h5⟩ := dd'
    refine d_write I (by rw [e]; exact True.intro) hs ⟨q, hq⟩ ⟨hl, hd, _, (rel.put k eb rv).keeps fun c ys ec => ?_, q, es, ep, hq, h2, h3, h4, h5⟩
    rw [upd_ne (ne_of ec e (fun z => nomatch z))]
    exact ec
end

section
variable {X : Cx} {pins : List (Addr × Obj)} {σ : St} {H : Hp} {s : Shared} {a : Addr} {kvs : List (Key × V)} {k : Key} {u : Value} {A : Around} {E : Value → Shared → Prop}
end


/-! ### readings and rules -/
/-- the element of a subscription, not a slice -/
def NoSl (i : Expr) : Prop := ∀ ov iv, subscripted i false ov iv = operate [ov, iv] (getItem ov iv)
theorem subD_of {prog : Program} {w : World} {A : Around} {E : Value → Shared → Prop} {s : Shared} {env : Env} {value slice : Expr} {pos : Pos} {T id : String} {Q : Value → Shared → Prop}
    (hl : typeLookup (.type T) "__getitem__" = pure (some (.builtin id))) (hs : NoSl slice)
    (h : wpAny (model prog w) A (eval value env) (fun o s₁ => wpAny (model prog w) A (eval slice env) (fun i s₂ => s₂.TypeIs o T ∧ wpAny (model prog w) A (getItem o i) Q E s₂) E s₁) E s) :
    wpAny (model prog w) A (eval (.Subscript value slice pos) env) Q E s := by
  refine Subscript_ (wpAny_mono h (fun o s₁ h₁ => wpAny_mono h₁ (fun i s₂ h₂ => ?_) fun _ _ x => x) fun _ _ x => x)
  obtain ⟨hT, h₂⟩ := h₂
  unfold subscriptTail
  refine wpAny_bind ?_
  rw [getitemInPython_of_ne hT.not_modules]
  refine wpAny_bind (wpAny_specialOf hT hl ?_)
  have fin : wpAny (model prog w) A (subscripted slice false o i) (fun r s₃ => wpAny (model prog w) A (letTemporaryGo value o r >>= fun _ => pure r) Q E s₃) E s₂ := by
    rw [hs o i]
    exact wpAny_operating (wpAny_mono h₂ (fun r s₃ h₃ => wpAny_bind (wpAny_letTemporaryGo (wpAny_pure h₃))) fun _ _ x => x)
  first
    | exact wpAny_pure (wpAny_bind fin)
    | exact wpAny_bind (wpAny_pure (wpAny_bind fin))
    | exact wpAny_bind fin

theorem dict_typeIs {X : Cx} {pins : List (Addr × Obj)} {σ : St} {H : Hp} {s : Shared} {a : Addr} {y : V} {o : Option V} (I : Inv X pins σ H s) (g : DGet H a y o) : s.TypeIs (.ref a) "dict" := by
  rcases g with ⟨kvs, k, e, _, _⟩ | ⟨kvs, k, b, e, _, _, _⟩
  · obtain ⟨_, _, vs, _, dd⟩ := dk_rd I.hok e
    exact dd.typeIs
  · obtain ⟨_, _, xs, _, dd⟩ := dt_rd I.hok e
    exact dd.typeIs

/-- d[y] -/
def tDGet (td ty : TE) : TE := fun σ H Q => td σ H fun x H1 => ty σ H1 fun y H2 => ∃ a v, x = .ref a ∧ DGet H2 a y (some v) ∧ Q v H2
/-- y in d, y not in d -/
def tDIn (ty td : TE) : TE := fun σ H Q => ty σ H fun y H1 => td σ H1 fun x H2 => ∃ a o, x = .ref a ∧ DGet H2 a y o ∧ Q (.bl o.isSome) H2
/-- d[y] = v -/
def sDPut (td ty tv : TE) : TS := fun D σ H => tv σ H fun v H1 => td σ H1 fun x H2 => ty σ H2 fun y H3 => ∃ a H4, x = .ref a ∧ DPut H3 a y v H4 ∧ D.nx σ H4

section
variable {X : Cx} {o i e value : Expr} {pos pos' tpos : Pos} {td ty tv : TE}
theorem pe_dget (hu : X.A.units + 1 < cLine) (ho : PE X o td) (hi : PE X i ty) (hs : NoSl i) : PE X (.Subscript o i pos) (tDGet td ty) := by
  intro pins s σ H Q I h
  refine subD_of PySem.F.slot_dict_getitem.lookup hs (thn (ho pins s σ H _ I h) fun u s1 ⟨x, H1, I1, rx, q1⟩ => thn (hi pins s1 σ H1 _ I1 q1) fun iv s2 ⟨y, H2, I2, ry, a, v, ex, g, q2⟩ => ?_)
  subst ex
  obtain rfl : u = Value.ref a := rx
  exact ⟨dict_typeIs I2 g, d_getItem hu I2 g ry fun w' s3 I3 rw' => ⟨v, H2, I3, rw', q2⟩⟩
theorem pc_din (hu : X.A.units + 1 < cLine) (hi : PE X i ty) (ho : PE X o td) : PC X .In i o (tDIn ty td) := by
  intro pins s σ H Q I h
  refine thn (hi pins s σ H _ I h) fun iv s1 ⟨y, H1, I1, ry, q1⟩ => thn (ho pins s1 σ H1 _ I1 q1) fun u s2 ⟨x, H2, I2, rx, a, ov, ex, g, q2⟩ => ?_
  subst ex
  obtain rfl : u = Value.ref a := rx
  exact d_in hu I2 g ry fun s3 I3 => ⟨.bl ov.isSome, H2, I3, rfl, q2⟩
theorem ps_dput (hu : X.A.units + 1 < cLine) (ho : PE X o td) (hi : PE X i ty) (hv : PE X value tv) (hs : swapsWith value (some (.Subscript o i pos')) pos.line X.env = pure false) :
    PS X (.Assign [.Subscript o i pos'] value pos) (sDPut td ty tv) := by
  intro pins s σ H D I h
  refine wpAny_Assign_Subscript (thn (hv pins s σ H _ I h) fun r s1 ⟨v, H1, I1, rv, q1⟩ => thn (ho pins s1 σ H1 _ I1 q1) fun u s2 ⟨x, H2, I2, rx, q2⟩ => thn (hi pins s2 σ H2 _ I2 q2) fun iv s3 ⟨y, H3, I3, ry, a, H4, ex, g, q3⟩ => ?_) hs
  subst ex
  obtain rfl : u = Value.ref a := rx
  exact d_setItem hu I3 g ry rv fun s4 I4 => ⟨σ, H4, I4, q3⟩
end


/-! ### displays -/
theorem dk_empty {P : Program} {w : World} {H : Hp} (h : Heap) (hb : sysModules < h.objs.size) : ObjOk P w H (h.push { cls := .type "dict", data := .dict #[] }) h.objs.size (.dK []) :=
  ⟨Nat.zero_le _, beq_eq_false_iff_ne.mpr (Ne.symm (Nat.ne_of_lt hb)), [], .nil, Heap.DictOf.new h⟩
/-- {}, to be a dict of the kind that is wanted -/
def tDNewK : TE := fun _ H Q => ∀ p, H p = none → Q (.ref p) (upd H p (.dK []))
section
variable {X : Cx} {pos : Pos}
theorem pe_dnewK : PE X (.Dict [] [] pos) tDNewK := fun pins s σ H Q I h =>
  wpAny_Dict_empty ⟨.ref s.heap.objs.size, _, I.laid (a := s.heap.objs.size) (o := .dK []) (t' := s.toks) (fun _ _ q => Heap.get?_push_of_some _ q) (Nat.le_refl _) (dk_empty s.heap I.big), rfl, h _ (I.hok.fresh (Nat.le_refl _))⟩
end

/-- the pairs of a display, from the left -/
def tPairs : List (TE × TE) → St → Hp → (List (V × V) → Hp → Prop) → Prop
  | [], _, H, Q => Q [] H
  | (tk, tv) :: r, σ, H, Q => tk σ H fun x H1 => tv σ H1 fun y H2 => tPairs r σ H2 fun ps H3 => Q ((x, y) :: ps) H3
abbrev VV : List (V × V) → List (Value × Value) → Prop := Paired fun p q => RelV p.1 q.1 ∧ RelV p.2 q.2
def PPs (X : Cx) (pos : Pos) (keys : List (Option Expr)) (values : List Expr) (trs : List (TE × TE)) : Prop :=
  ∀ (pins : List (Addr × Obj)) (s : Shared) (σ : St) (H : Hp) (Q : List (V × V) → Hp → Prop), Inv X pins σ H s → tPairs trs σ H Q →
    wpAny (model X.prog X.w) X.A (evalPairs (pairTrees keys values X.env pos)) (fun vs s' => ∃ ps H', Inv X pins σ H' s' ∧ VV ps vs ∧ Q ps H') X.xe s
theorem pps_nil {X : Cx} {pos : Pos} : PPs X pos [] [] [] := fun pins s σ H Q I h => pairTrees_nil_walk ⟨[], H, I, .nil, h⟩
theorem pps_cons {X : Cx} {pos : Pos} {k v : Expr} {ks : List (Option Expr)} {vs : List Expr} {tk tv : TE} {trs : List (TE × TE)} (hk : PE X k tk) (hv : PE X v tv) (hr : PPs X pos ks vs trs) :
    PPs X pos (some k :: ks) (v :: vs) ((tk, tv) :: trs) := fun pins s σ H Q I h =>
  pairTrees_cons_walk (thn (hk pins s σ H _ I h) fun u s1 ⟨x, H1, I1, rx, q1⟩ => thn (hv pins s1 σ H1 _ I1 q1) fun w2 s2 ⟨y, H2, I2, ry, q2⟩ =>
    thn (hr pins s2 σ H2 _ I2 q2) fun ws s3 ⟨ps, H3, I3, rel, q3⟩ => ⟨(x, y) :: ps, H3, I3, .cons ⟨rx, ry⟩ rel, q3⟩)

def mergeK (kvs more : List (Key × V)) : List (Key × V) := more.foldl (fun acc kv => putK acc kv.1 kv.2) kvs
theorem KV.merge : ∀ {more : List (Key × V)} {rs : List (Key × Value)} {kvs : List (Key × V)} {vs : List (Key × Value)}, KV more rs → KV kvs vs → KV (mergeK kvs more) (merged vs rs) := by
  intro more rs kvs vs r
  unfold KV at r
  induction r generalizing kvs vs with
  | nil => intro q; exact q
  | @cons p q ps qs h t ih =>
    intro r0
    have e : KV (putK kvs p.1 p.2) (stored vs q.1 q.2) := by
      have := r0.put p.1 h.2
      rw [← h.1]; exact this
    exact ih e
theorem length_mergeK : ∀ (more kvs : List (Key × V)), (mergeK kvs more).length ≤ kvs.length + more.length
  | [], kvs => by show kvs.length ≤ kvs.length + 0; omega
  | p :: r, kvs => by
    have h1 := length_mergeK r (putK kvs p.1 p.2)
    have h2 := length_putK kvs p.1 p.2
    show (mergeK (putK kvs p.1 p.2) r).length ≤ _
    rw [List.length_cons]; omega
theorem carries_of {P : Program} {w : World} : ∀ {kvs : List (Key × V)} {ws : List (Value × Value)}, VV (kvs.map fun kv => (kV kv.1, kv.2)) ws → ∃ rs, Carries (mixKind P w) ws rs ∧ KV kvs rs
  | [], _, r => by rw [List.map_nil] at r; cases r; exact ⟨[], True.intro, .nil⟩
  | p :: kvs, _, r => by
    rw [List.map_cons] at r
    cases r with
    | @cons a b as bs h t =>
      obtain ⟨rs, c, q⟩ := carries_of (P := P) (w := w) t
      obtain ⟨b1, b2⟩ := b
      exact ⟨(p.1, b2) :: rs, ⟨kV_is h.1, rfl, c⟩, .cons ⟨rfl, h.2⟩ q⟩
/-- {k: v, ..} with keys ints and texts; the new dict stands empty while the pairs are made -/
def tDisp (trs : List (TE × TE)) : TE := fun σ H Q => ∀ p, H p = none → tPairs trs σ (upd H p (.dK [])) fun ps H2 => H2 p = some (.dK []) ∧ ∃ kvs : List (Key × V), ps = kvs.map (fun kv => (kV kv.1, kv.2)) ∧ kvs.length ≤ 15 ∧ Q (.ref p) (upd H2 p (.dK (mergeK [] kvs)))
theorem pe_disp {X : Cx} {pos : Pos} {keys : List (Option Expr)} {values : List Expr} {trs : List (TE × TE)} (h : PPs X pos keys values trs) (hall : keys.all (·.isSome) = true) (hl : keys.length = values.length) (h0 : keys ≠ [])
    (h15 : keys.length ≤ 15) : PE X (.Dict keys values pos) (tDisp trs) := by
  intro pins s σ H Q I q
  have hn := I.hok.fresh (Nat.le_refl s.heap.objs.size)
  have I1 := I.laid (a := s.heap.objs.size) (o := .dK []) (h' := s.heap.push { cls := .type "dict", data := .dict #[] }) (t' := s.toks) (fun _ _ q => Heap.get?_push_of_some _ q) (Nat.le_refl _) (dk_empty s.heap I.big)
  refine wpAny_Dict_walk (knd := mixKind X.prog X.w) hall hl h0 h15 (thn (h pins _ σ _ _ I1 (q _ hn)) fun ws s2 ⟨ps, H2, I2, rel, e, kvs, ep, lk, q2⟩ => ?_)
  subst ep
  obtain ⟨rs, c, rk⟩ := carries_of (P := X.prog) (w := X.w) rel
  obtain ⟨z, hd, vs0, r0, dd⟩ := dk_of I2.hok e
  cases r0
  refine ⟨rs, c, dd, fun h' dd' hs => ⟨.ref s.heap.objs.size, _, ?_, rfl, q2⟩⟩
  have hz : (mergeK [] kvs).length ≤ sizeLine := by
    have h1 := length_mergeK kvs []
    rw [List.length_nil] at h1
    rw [sizeLine_eq]; omega
  have he : ∃ q, h'.get? s.heap.objs.size = some q := let ⟨q, _, _, hq, _⟩ := dd'; ⟨q, hq⟩
  exact d_write I2 (by rw [e]; exact True.intro) hs he (dk_new hz hd (rk.merge .nil) dd')


/-! ### methods -/
structure M2 (X : Cx) (o : Expr) (m : Str) (apos : Pos) (e f : Expr) (cpos : Pos) : Prop where
  base : attributeBase o m X.env (eval o X.env) = eval o X.env
  few : ((backTo cpos (starEach [e, f] X.env)).all (fun x => !x.1) && (backToKw cpos (keywordEach [] X.env)).all (fun x => x.1.isSome)
    && decide (([e, f] : List Expr).length + ([] : List Keyword).length + (if ([] : List Keyword).isEmpty then 0 else 1) < 30)) = true
  line : (apos.endLine == cpos.line) = true
  trees : backTo cpos (starEach [e, f] X.env) = [(false, eval e X.env), (false, eval f X.env)]

/-- a is a dict, whatever its keys -/
def IsD (H : Hp) (a : Addr) : Prop := (∃ kvs, Rd H a (.dK kvs)) ∨ ∃ kvs, Rd H a (.dT kvs)
theorem isD_at {X : Cx} {pins : List (Addr × Obj)} {σ : St} {H : Hp} {s : Shared} {a : Addr} (I : Inv X pins σ H s) (d : IsD H a) :
    s.TypeIs (.ref a) "dict" ∧ (∀ b, Value.ref a = .ref b → ∃ ob, s.heap.get? b = some ob ∧ ob.dict = none) ∧ (a == sysModules) = false := by
  rcases d with ⟨kvs, e⟩ | ⟨kvs, e⟩
  · obtain ⟨_, hd, vs, _, dd⟩ := dk_rd I.hok e
    refine ⟨dd.typeIs, fun b q => ?_, hd⟩
    cases q
    obtain ⟨ob, _, _, h1, h2, _⟩ := dd
    exact ⟨ob, h1, h2.2.1⟩
  · obtain ⟨_, hd, xs, _, dd⟩ := dt_rd I.hok e
    refine ⟨dd.typeIs, fun b q => ?_, hd⟩
    cases q
    obtain ⟨ob, _, _, h1, h2, _⟩ := dd
    exact ⟨ob, h1, h2.2.1⟩

section
variable {X : Cx} {pins : List (Addr × Obj)} {σ : St} {H : Hp} {s : Shared} {a : Addr} {y d : V} {u r : Value} {o : Option V} {A : Around} {E : Value → Shared → Prop}
end

section
variable {X : Cx} {o e f : Expr} {apos cpos : Pos} {td ty tx : TE}
end

/-! ### dict(d): a copy -/
section
variable {X : Cx} {pins : List (Addr × Obj)} {σ : St} {H : Hp} {s : Shared} {a : Addr} {kvs : List (Key × V)} {A : Around} {E : Value → Shared → Prop}
end


section
variable {X : Cx} {pins : List (Addr × Obj)} {σ : St} {H : Hp} {s : Shared} {a : Addr} {y : V} {u : Value} {A : Around} {E : Value → Shared → Prop}
end
end L2

namespace Att
open PySem PySem.W PySem.Calls PyProof.Rows

/-! ### the script -/
theorem ints_of_wellAll {P : Params} {h : Heap} : ∀ (ns : List Int) (vs : List Value), WellAll P h vs (ns.map WData.int) → IntsAre vs ns := by
  intro ns
  induction ns with
  | nil =>
    intro vs w
    rw [List.map_nil] at w
    cases w
    exact .nil
  | cons n ns ih =>
    intro vs w
    rw [List.map_cons] at w
    cases w with
    | cons a b =>
      cases a
      exact .cons _ _ (ih _ b)

theorem script_of {l : OpenLaw} {n : Nat} (hn : l.most = some n) {P : Params} {h : Heap} {args : List WData} {vals : List Value}
    (hpre : l.row.toRowW.claim.pre args = true) (hwl : WellAll P h vals args) :
    ∃ a vs ns, vals = [Value.ref a] ∧ args = [WData.list (ns.map WData.int)] ∧ h.get? a = some { cls := .type "list", data := .seq vs.toArray } ∧ IntsAre vs ns ∧ ns.length ≤ n := by
  have hsh : WShape.hasAll [] args [.list .int] = true := (pre_splitW hpre).1
  have hc : l.pre.holds [] { args := args } = true := (pre_splitW hpre).2
  obtain ⟨d, r, rfl, h1, h2⟩ := hasAllW_cons hsh
  obtain rfl := hasAllW_nil h2
  obtain ⟨xs, rfl, h3⟩ := hasW_list h1
  obtain ⟨ns, rfl⟩ := items_int h3
  have hlen : ns.length ≤ n := by
    unfold OpenLaw.pre at hc
    have h4 : (WTm.not (.lt (.lit (.int (n : Int))) (.len (.arg 0)))).holds [] { args := [.list (ns.map .int)] } = true := by
      have h4 := (holds_andW hc).1
      rw [hn] at h4
      exact h4
    have h5 := condW_of h4 (w_not (w_lt w_lit (w_len_list (w_arg rfl))))
    rw [List.length_map] at h5
    refine Nat.le_of_not_lt fun q => ?_
    have q' : (n : Int) < ((ns.length : Nat) : Int) := by omega
    first
      | (rw [decide_eq_true q'] at h5; exact absurd h5 (by decide))
      | (simp at h5; omega)
  cases hwl with
  | cons w1 w2 =>
    cases w2
    cases w1 with
    | list ho hall => exact ⟨_, _, ns, rfl, rfl, ho, ints_of_wellAll ns _ hall, hlen⟩

theorem post_true (l : OpenLaw) (args : List WData) : l.row.toRowW.claim.post args (.bool true) args = true :=
  postW_of (r := l.row.toRowW) (X := (true == true))
    (show WShape.has [] (.bool true) .bool = true by first | rfl | decide | simp [WShape.has, WShape.arms, WShape.armsAll])
    (show (WTm.eq .res (.lit (.bool true))).value [] { args := args, res := some (.bool true), after := args } = some (.bool (true == true)) from w_eq_bool (w_res rfl) w_lit) rfl

/-! ### the attachment: holds_open's last premise (the goal 'hc' behind k_head) from a wpAny of the law's body -/

/-- the same from a codeAny of the CALL (for a layer whose function contracts speak of calls) -/
theorem attach_call {l : OpenLaw} {n : Nat} {q : Program} {loose : List Str} {XP : (Str → Option Value) → Heap → Prop} {YP : World → Heap → Prop} {d : DefRec}
    (hn : l.most = some n) (hdf : d.params.defaults = [])
    (call : ∀ (w : World) (s₀ s₁ : Shared) (mg mb : Str → Option Value) (fa : Addr) (o : Obj) (pm cd doc : Value) (a : Addr) (vs : List Value) (ns : List Int),
      Ground q loose [] XP w s₀ mg mb s₁.heap → YP w s₁.heap →
      s₁.heap.get? fa = some o → o.data = .func (docDef d.name d.params d.body d.scope pm cd doc) → s₁.heap.CodeRec cd d.name → mg d.name = some (.ref fa) →
      s₁.heap.get? a = some { cls := .type "list", data := .seq vs.toArray } → IntsAre vs ns → ns.length ≤ n → s₁.gens = #[] →
      codeAny (model l.prog w) callerA (.call (.ref fa) ⟨[.ref a], []⟩) (fun r s' => r = .ok (.ret (.bool true)) ∧ OldK s₁.heap s'.heap ∧ s'.os = s₁.os ∧ AllBare s'.gens) s₁) :
    WalkO q loose XP YP l.row.toRowW d [] (fun f vs => PySem.call f vs) := by
  intro w s₀ s₁ mg mb G Y fa o pm cd doc dV kV ho hd hcd hD hmg hg args vals as hpre hlay hrd hwl hlo
  obtain rfl : dV = .none := Dflts.none hD hdf
  obtain rfl : kV = .none := Dflts.noKw hD
  obtain ⟨a, vs, ns, rfl, rfl, hobj, hints, hlen⟩ := script_of hn hpre hwl
  refine enter_call (codeAny_mono (call w s₀ s₁ mg mb fa o pm cd doc a vs ns G Y ho (fd_plain hd) hcd hmg hobj hints hlen hg) fun r s' hq => ?_)
  obtain ⟨rfl, h2, h3, h4⟩ := hq
  exact ⟨.inl ⟨.bool true, .bool true, [], rfl, fun _ => rfl, .bool true, post_true l _, fun _ => ⟨List.Pairwise.nil, fun _ hm => (nomatch hm)⟩⟩, h2, h3, h4⟩


/-! ### rules over ANY heap (no ledger) from facts about the written part K: the library's own take a ledger (News) for what they write -/
section
variable {prog : Program} {w : World} {A : Around} {E : Value → Shared → Prop} {s : Shared} {K : Frag}





/-! the whole heap as the ledger: makes every rule that writes through a ledger a rule over any heap -/

end
end Att

namespace L2
open PySem PySem.Spec PyProof.Rows

theorem vals_ints : ∀ {vs : List Value} {ns : List Int}, IntsAre vs ns → Vals (ns.map V.int) vs
  | _, _, .nil => .nil
  | _, _, .cons n t h => .cons ⟨t, rfl⟩ (vals_ints h)

/-- nothing is tracked but the script, known to the object (or it is an object of the module) -/
def Only (H : Hp) : Prop := ∀ b, H b = none ∨ ∃ o xs, H b = some (.frz o (.lst xs))

/-- THE HEAD: the law's promise, at the heap behind the top. F, the promise of the law's def, may use that base is part of the heap (so K.In base, base.Ns mainGlobals mg stand in Mod) -/
theorem law_call {P : Program} {w : World} {K : PySem.W.Frag} {mg mb : Str → Option Value} {CX : CXT} {k : Nat} {fa a : Addr} {fd : FuncData} {x : Str} {sp : Sp} {s₁ : Shared} {vs : List Value} {ns : List Int}
    (KX : K.In s₁.heap) (hns : s₁.heap.Ns mainGlobals mg) (hb : s₁.heap.Ns builtinsNs mb) (hbb : ∀ x : Str, x ≠ "__name__" → mb x = bootBuiltins x) (hlim : s₁.heap.NoLimit) (hg : s₁.gens = #[])
    (ha : s₁.heap.get? a = some { cls := .type "list", data := .seq vs.toArray }) (hi : IntsAre vs ns) (hl : ns.length ≤ sizeLine) (hr : Room k callerA)
    (F : ∀ base : Heap, K.In base → base.Ns mainGlobals mg → FnOk P w K mg base CX k fa fd [x] sp) (hbind : ∀ (s : Shared) (u : Value), BindsTo s fd ⟨[u], []⟩ [(x, u)])
    (hsp : ∀ H : Hp, Only H → SqL K H a (ns.map V.int) → sp [.ref a] H (fun v _ => v = .bl true) fun _ _ _ => False)
    (hCX : ∀ H e s', CX [] H s₁ (fun _ _ _ => False) e s' → False) :
    codeAny (model P w) callerA (.call (.ref fa) ⟨[.ref a], []⟩) (fun r s' => r = .ok (.ret (.bool true)) ∧ OldK s₁.heap s'.heap ∧ s'.os = s₁.os ∧ AllBare s'.gens) s₁ := by
  have rv := vals_ints hi
  have lenV := hi.length
  -- from an abstract heap in which nothing but the script may be tracked
  have core : ∀ H : Hp, Only H → SqL K H a (ns.map V.int) → HOk P w H s₁.heap → (∀ b, H b ≠ none → b = a) → (H a ≠ none → K.lookup a = none) →
      codeAny (model P w) callerA (.call (.ref fa) ⟨[.ref a], []⟩) (fun r s' => r = .ok (.ret (.bool true)) ∧ OldK s₁.heap s'.heap ∧ s'.os = s₁.os ∧ AllBare s'.gens) s₁ := by
    intro H hO hS hok hA hK
    have base_of : ∀ {b : Addr} {o : Obj}, s₁.heap.get? b = some o → H b = none → (hidT s₁.heap H).get? b = some o := fun e n => hidT_get e n
    have noA : ∀ {b : Addr} {o : Obj} {es : Array DictEntry} {ep : Nat}, s₁.heap.get? b = some o → o.data = .dict es ep → H b = none := fun {b o es ep} e d => by
      cases q : H b with
      | none => rfl
      | some u =>
        have e' : b = a := hA b (by rw [q]; simp)
        subst e'
        rw [ha] at e; cases e
        have d' : Data.seq vs.toArray _ = Data.dict es ep := d
        cases d'
    have nsK : ∀ {b : Addr} {m : Str → Option Value}, s₁.heap.Ns b m → (hidT s₁.heap H).Ns b m := fun {b m} ⟨o, es, ep, e, d, r⟩ => ⟨o, es, ep, base_of e (noA e d), d, r⟩
    have hKb : K.In (hidT s₁.heap H) := fun b o e => base_of (KX b o e) (by
      cases q : H b with
      | none => rfl
      | some u =>
        have e' : b = a := hA b (by rw [q]; simp)
        subst e'
        rw [hK (by rw [q]; simp)] at e; cases e)
    have hM : Mod K mg (hidT s₁.heap H) := ⟨hKb, nsK hns, ⟨mb, nsK hb, hbb⟩, let ⟨mc, h1, h2⟩ := hlim; ⟨mc, nsK h1, h2⟩⟩
    have e0 : Env0 P w K mg (hidT s₁.heap H) callerA [] s₁ H := ⟨rfl, hM, fun b o e => of_hidT e, Nat.le_of_eq (hidT_size _ _), trivial, fun b hb => absurd (show b ∈ ([] : List Addr) from hb) (by simp), hok, .of_eq hg⟩
    refine codeAny_mono ((F _ hKb (nsK hns)).run callerA [] s₁ H ⟨[.ref a], []⟩ [.ref a] [.ref a] _ _ hr e0 (hbind s₁ (.ref a)) (.cons rfl .nil) (hsp H hO hS)) fun r s' h => ?_
    cases r with
    | error e => exact (hCX H e s' h).elim
    | ok fl =>
      cases fl with
      | next => exact False.elim h
      | brk => exact False.elim h
      | cont => exact False.elim h
      | ret u =>
        obtain ⟨v, H', os, bare, un, hok', r', q⟩ := h
        have q' : v = .bl true := q
        subst q'
        obtain rfl : u = Value.bool true := r'
        refine ⟨rfl, OldK.of_keep fun b o e => ?_, os, bare⟩
        cases q : H b with
        | none => exact un.keep b o e q (by intro z; exact absurd (show b ∈ ([] : List Addr) from z) (by simp)) (by simp)
        | some u =>
          rcases hO b with z | ⟨ob, xs, z⟩
          · rw [q] at z; cases z
          · have z2 := un.frzs b ob _ z
            obtain ⟨e1, _⟩ := hok b _ z
            obtain ⟨e2, _⟩ := hok' b _ z2
            rw [e] at e1; cases e1
            exact e2
  cases hk : K.lookup a with
  | some o =>
    -- the script is one of the module's own objects
    have e := KX a o hk
    rw [ha] at e
    cases e
    refine core (fun _ => none) (fun _ => .inl rfl) (.inr ⟨_, vs.toArray, _, hk, rfl, rfl, rfl, by rw [List.size_toArray, lenV]; exact hl, by simpa using rv⟩) (fun b u z => by have z' : (none : Option HO) = some u := z; cases z') (fun b z => absurd rfl z) fun z => absurd rfl z
  | none =>
    refine core (fun b => if b = a then some (.frz { cls := .type "list", data := .seq vs.toArray } (.lst (ns.map V.int))) else none) (fun b => ?_) (.inl (.inr ⟨{ cls := .type "list", data := .seq vs.toArray }, if_pos rfl⟩)) (fun b u z => ?_) (fun b z => ?_) fun _ => hk
    · by_cases hb : b = a
      · exact .inr ⟨_, _, if_pos hb⟩
      · exact .inl (if_neg hb)
    · by_cases hb : b = a
      · have z' := (if_pos hb).symm.trans z
        cases z'
        subst hb
        exact ⟨ha, by rw [List.length_map]; exact hl, vs, _, rv, ha⟩
      · have z' := (if_neg hb).symm.trans z
        cases z'
    · by_cases hb : b = a
      · exact hb
      · exact absurd (if_neg hb) z
end L2

namespace L2
open PySem PySem.Spec PyProof.Rows


/-- the goal that k_head leaves (case hc), from the law's promise. F gives the function object fd (K's own) once, then the promise over every base -/
theorem walk_of {l : PySem.W.OpenLaw} {n k : Nat} {q : Program} {loose : List Str} {XP : (Str → Option Value) → Heap → Prop} {YP : World → Heap → Prop} {d : DefRec} {K : Params → PySem.W.Frag} {CX : World → CXT} {sp : World → Sp} {x : Str}
    (hn : l.most = some n) (hn2 : n ≤ sizeLine) (hdf : d.params.defaults = []) (hr : Room k callerA)
    (hY : ∀ (w : World) (h : Heap), YP w h → (K w.params).In h)
    (F : ∀ (w : World) (mg : Str → Option Value) (fa : Addr) (h : Heap), (K w.params).In h → h.Ns mainGlobals mg → mg d.name = some (.ref fa) →
      ∃ fd : FuncData, (∀ (s : Shared) (u : Value), BindsTo s fd ⟨[u], []⟩ [(x, u)]) ∧
        ∀ base : Heap, (K w.params).In base → base.Ns mainGlobals mg → FnOk l.prog w (K w.params) mg base (CX w) k fa fd [x] (sp w))
    (hsp : ∀ (w : World) (H : Hp) (a : Addr) (ns : List Int), ns.length ≤ n → Only H → SqL (K w.params) H a (ns.map V.int) → sp w [.ref a] H (fun v _ => v = .bl true) fun _ _ _ => False)
    (hCX : ∀ (w : World) (H : Hp) (s : Shared) (e : Value) (s' : Shared), CX w [] H s (fun _ _ _ => False) e s' → False) :
    PySem.W.WalkO q loose XP YP l.row.toRowW d [] (fun f vs => PySem.call f vs) := by
  refine Att.attach_call hn hdf fun w s₀ s₁ mg mb fa o pm cd doc a vs ns G Y ho hd hcd hmg hobj hints hlen hg => ?_
  have KX := hY w _ Y
  obtain ⟨fd, hb, hF⟩ := F w mg fa _ KX G.T.g hmg
  exact law_call KX G.T.g G.T.b G.T.builtins G.T.nolimit hg hobj hints (Nat.le_trans hlen hn2) hr hF hb (fun H hO hS => hsp w H a ns hlen hO hS) fun H e s' => hCX w H s₁ e s'
end L2

/- THE LAST THEOREM (shape; LID, My.* are yours):
   My.Adr: a structure of the addresses that your layer names (classes, functions); My.Txt K t: a structure (Prop) of the equations over K;
   My.txt_mk : {K} {implicit addresses ..} (e1 : nsIn K mainGlobals "law" = some (some (.ref f))) (e2 : K.lookup f = some ⟨oc, od, .func (fnOf "law" "law" params body scope dV kV doc pm an cdv ct), sl⟩) (e3 : codeIn K cdv "law" = true) .. : ∃ t, My.Txt K t

set_option maxRecDepth 100000 in
set_option maxHeartbeats 0 in
theorem PySem.Challenge.cw_LID_holds : PySem.Challenge.rw_LID.Holds := by
  w_on; o_law; k_head; (case hw => w_witness2)
  k_fill
  refine L2.walk_of (l := PySem.Challenge.rw_LID) (n := 63) (k := 40) (x := "script") (CX := fun w => ..) (sp := fun _ => My.sp_law) rfl (by decide) rfl ⟨rfl, by decide, by decide⟩ (fun w h Y => PySem.W.kIn_of Y) ?F ?S ?C
  case F =>
    intro w mg fa h KX G hmg
    have T : ∃ t, My.Txt (L2.KOf KX) t := by
      dsimp only [L2.KOf]                          -- K must stand as «<heap const> w.params» for k_is
      refine' My.txt_mk ?e1 ?e2 ?e3 ..
      (case e1 => PySem.W.k_is)                    -- in the order: a name -> its address -> its object -> its parts
      (case e2 => PySem.W.k_is)
      ..
    obtain ⟨t, T⟩ := T
    have e0 := hmg.symm.trans (PySem.W.mg_of KX G T.law)
    cases e0                                       -- fa is the law's own address
    exact ⟨_, fun s u => .of_eq rfl, fun base kb nb => My.law_fn T kb nb⟩     -- if «.of_eq rfl» comes too early: refine' ⟨_, ?b, fun base kb nb => My.law_fn T kb nb⟩; exact fun s u => .of_eq rfl
  case S => exact fun w H a ns hl hO hS => ..
  case C => exact ..
(the tactic k_is has no namespace: write k_is) -/

/-! SHORT WORDS over the layer: a def of the text, its body, what a loop and a test want. -/
namespace L2
open PySem PySem.Spec PyProof.Rows

/-! ### the text by places -/
def defArgs (s : Stmt) : Arguments := match s with
  | .FunctionDef _ a _ _ _ _ _ _ _ _ => a
  | _ => { posonlyargs := [], args := [], vararg := none, kwonlyargs := [], kw_defaults := [], kwarg := none, defaults := [] }
def defBody (s : Stmt) : List Stmt := match s with
  | .FunctionDef _ _ b _ _ _ _ _ _ _ => b
  | _ => []
def defScope (s : Stmt) : Scope := match s with
  | .FunctionDef _ _ _ _ _ _ sc _ _ _ => sc
  | _ => { kind := .function, names := [], isGenerator := false, isCoroutine := false }

/-! ### no exception leaves a def -/
abbrev CX0 : CXT := fun _ _ _ _ _ _ => False
abbrev E0 : XK := fun _ _ _ => False
theorem pass0 {X : Cx} : Passes CX0 X E0 := fun _ _ _ _ _ _ _ h => h.elim

/-! ### a def (or method) of the text as it stands behind the top -/
structure Fun (K : PySem.W.Frag) (x qual : Str) (st : Stmt) (f : Addr) (fd : FuncData) : Prop where
  ex : ∃ (oc : Value) (od : Option Addr) (kV doc pm : Value) (an : Option Addr) (cdv ct : Value) (osl : Array (Option Value)),
    fd = PySem.W.fnOf x qual (defArgs st) (defBody st) (defScope st) .none kV doc pm an cdv ct ∧ K.lookup f = some ⟨oc, od, .func fd, osl⟩ ∧ PySem.W.codeIn K cdv qual = true
  kp : PySem.W.keepIn K (.ref f) = true
section
variable {P : Program} {w : World} {K : PySem.W.Frag} {mg : Str → Option Value} {base : Heap}
/-- THE RULE for a def: its body as a term of rules, and the reading of that term -/
theorem Fun.ok {x qual : Str} {st : Stmt} {f : Addr} {fd : FuncData} {N ps : List Str} {k : Nat} {sp : Sp} (F : Fun K x qual st f fd) (S : FnScope N ps (defScope st)) (len : ∀ vs H Q E, sp vs H Q E → vs.length = ps.length)
    (hbody : ∀ (cdv : Value) (A : Around) (outer : List Env) (s : Shared) (H : Hp) (vs : List V) (Q : VK) (E : XK), Room k (A.deeper (envOfC qual (defScope st) s.heap.objs.size f cdv)) → sp vs H Q E →
      ∃ t, PSs (cxOf CX0 P w K mg base N qual (defScope st) f cdv A outer s H E).nox (defBody st) t ∧ t { nx := fun _ H' => Q .non H', rt := Q } (start N vs) H) : FnOk P w K mg base CX0 (k + 1) f fd ps sp := by
  obtain ⟨oc, od, kV, doc, pm, an, cdv, ct, osl, rfl, lk, hcd⟩ := F.ex
  refine fn_of lk hcd S len fun A outer s H vs Q E hr hsp => ?_
  obtain ⟨t, h, q⟩ := hbody cdv A outer s H vs Q E hr hsp
  exact ⟨t, h.nox, q⟩
/-- how its arguments bind (no defaults): h is «fun _ _ _ _ _ _ us hl => match us, hl with | [_, _], _ => rfl», one _ a parameter -/
theorem Fun.binds {x qual : Str} {st : Stmt} {f : Addr} {fd : FuncData} {ps : List Str} (F : Fun K x qual st f fd)
    (h : ∀ (kV doc pm : Value) (an : Option Addr) (cdv ct : Value) (us : List Value), us.length = ps.length → bindArgs (PySem.W.fnOf x qual (defArgs st) (defBody st) (defScope st) .none kV doc pm an cdv ct) ⟨us, []⟩ = pure (ps.zip us)) : Binds K fd ps [] := by
  obtain ⟨oc, od, kV, doc, pm, an, cdv, ct, osl, rfl, lk, hcd⟩ := F.ex
  exact .all (h kV doc pm an cdv ct)
theorem fun_mk {x qual : Str} {st : Stmt} {f : Addr} {oc : Value} {od an : Option Addr} {osl : Array (Option Value)} {kV doc pm cdv ct : Value} (l : K.lookup f = some ⟨oc, od, .func (PySem.W.fnOf x qual (defArgs st) (defBody st) (defScope st) .none kV doc pm an cdv ct), osl⟩)
    (c : PySem.W.codeIn K cdv qual = true) (k : PySem.W.keepIn K (.ref f) = true) : Fun K x qual st f (PySem.W.fnOf x qual (defArgs st) (defBody st) (defScope st) .none kV doc pm an cdv ct) := ⟨⟨oc, od, kV, doc, pm, an, cdv, ct, osl, rfl, l, c⟩, k⟩
end
theorem hu_of {A : Around} {k : Nat} (hr : Room k A) : A.units + 1 < cLine := Nat.lt_of_le_of_lt (Nat.add_le_add_left (by decide : 1 ≤ 64) _) hr.units

/-! ### expressions in short: the name that stands in the i-th slot -/
section
variable {X : Cx}
theorem pv (i : Nat) {x : Str} {pos : Pos} (hN : X.N[i]? = some x := by rfl) (hv : Vis X.env.scope x := by first | exact Or.inl rfl | exact Or.inr (Or.inl rfl) | exact Or.inr (Or.inr rfl)) (hd : (x == ("__debug__" : Str)) = false := by decide)
    (hcd : (x == ("__classdict__" : Str)) = false := by decide) : PE X (.Name x pos) (tVar i) := pe_var hN hv hd hcd
end

/-! ### tests -/
theorem iteF {A B : Prop} (h : B) : if false = true then A else B := by
  rw [if_neg Bool.false_ne_true]
  exact h
theorem iteT {A B : Prop} (h : A) : if true = true then A else B := by
  rw [if_pos rfl]
  exact h
theorem ite2 {c A B : Prop} [Decidable c] (h1 : c → A) (h2 : ¬ c → B) : if c then A else B := by
  by_cases h : c
  · rw [if_pos h]
    exact h1 h
  · rw [if_neg h]
    exact h2 h

/-! ### heaps -/
/-- all that was tracked is as it was -/
def Same (H H' : Hp) : Prop := ∀ b o, H b = some o → H' b = some o
theorem Same.refl (H : Hp) : Same H H := fun _ _ h => h
theorem Same.trans {H H1 H2 : Hp} (a : Same H H1) (b : Same H1 H2) : Same H H2 := fun c o h => b c o (a c o h)
theorem Same.seq {K : PySem.W.Frag} {H H' : Hp} {a : Addr} {xs : List V} (e : Same H H') (h : SqL K H a xs) : SqL K H' a xs := by
  rcases h with (h | ⟨o, h⟩) | h
  · exact .inl (.inl (e _ _ h))
  · exact .inl (.inr ⟨o, e _ _ h⟩)
  · exact .inr h

end L2

namespace L2
open PySem PySem.Spec PyProof.Rows
section
variable {X : Cx}
end
/-! ### a dict's pairs: keys that differ -/
section
variable {κ : Type} [DecidableEq κ]
theorem valV_in {kvs : List (κ × V)} {k : κ} {v : V} (h : valV kvs k = some v) : k ∈ kvs.map (·.1) := by
  have q : (kvs.any fun kv => decide (kv.1 = k)) = true := by
    rw [valV_any, h]
    all_goals rfl
  obtain ⟨p, hp, e⟩ := List.any_eq_true.mp q
  exact List.mem_map.mpr ⟨p, hp, of_decide_eq_true e⟩
end
end L2


set_option Elab.async false
set_option linter.all false
set_option maxRecDepth 100000
set_option maxHeartbeats 4000000
namespace L2
open PySem PySem.Spec PyProof.Rows

/-! ### a list comprehension of one clause -/
section
variable {prog : Program} {w : World} {A : Around} {E : Value → Shared → Prop} {R : Result → Shared → Prop} {s : Shared}
theorem compLoop_gen {elt target iter : Expr} {ifs : List Expr} {scope : Scope} {pos : Pos} {it acc : Value} {env : Env} (I : Nat → Shared → Prop)
    (turn : ∀ n s, I n s → wpAny (model prog w) A (pyNext it) (fun r s1 => match r with
      | none => R (.ok .next) s1
      | some v => wpAny (model prog w) A (letOwnedTupleGo target it v) (fun _ s1' => wpAny (model prog w) A (assign target env v) (fun _ s2 =>
          wpAny (model prog w) A (forIn ifs true fun c r => if r = true then do let ok ← isTrue c env (eval c env); pure (ForInStep.yield ok) else pure (ForInStep.yield r)) (fun ok s3 =>
            if ok = true then wpAny (model prog w) A (eval elt env) (fun x s4 =>
              wpAny (model prog w) A (call (.builtin "list.append") [acc, x]) (fun _ s5 => ∃ m, m < n ∧ I m s5) (fun _ _ => False) s4) (fun _ _ => False) s3
            else ∃ m, m < n ∧ I m s3) (fun _ _ => False) s2) (fun _ _ => False) s1') (fun _ _ => False) s1) (fun _ _ => False) s)
    (n : Nat) (h : I n s) :
    codeAny (model prog w) A (.compLoop (.ListComp elt [⟨target, iter, ifs, 0⟩] scope pos) 0 it acc env) R s := by
  refine codeAny_loop rfl I (fun n s hI => ?_) n h
  show wpAny _ A ((compTurn (.ListComp elt [⟨target, iter, ifs, 0⟩] scope pos) 0 it acc env).onRaise (fun x => do noteFrame x env; theTreesLotGoes x)) _ _ s
  refine wpAny_noted ?_
  rw [compTurn_list]
  refine wpAny_bind (wpAny_standAt (wpAny_bind (wpAny_mono (turn n s hI) (fun r s₁ h₁ => ?_) fun _ _ h' => h'.elim)))
  cases r with
  | none => exact wpAny_pure h₁
  | some v =>
    refine wpAny_bind (wpAny_mono h₁ (fun _ s1' h1' => ?_) fun _ _ h' => h'.elim)
    refine wpAny_bind (wpAny_mono h1' (fun _ s₂ h₂ => wpAny_bind (wpAny_mono h₂ (fun ok s₃ h₃ => ?_) fun _ _ h' => h'.elim)) fun _ _ h' => h'.elim)
    cases ok with
    | false => exact wpAny_pure ⟨rfl, h₃⟩
    | true =>
      exact wpAny_bind (wpAny_bind (wpAny_mono h₃ (fun x s₄ h₄ => wpAny_bind (wpAny_mono h₄ (fun _ s₅ h₅ => wpAny_pure (wpAny_pure ⟨rfl, h₅⟩)) fun _ _ h' => h'.elim)) fun _ _ h' => h'.elim))
end

theorem closure_of {env : Env} : ∀ (names : List (Str × NameKind)) (cs : List (Str × Addr)), (∀ n, (n, NameKind.free) ∈ names → ∃ c, env.cells.lookup n = some c) →
    ∃ cl, (forIn names cs fun (x : Str × NameKind) (r : List (Str × Addr)) => match x with
      | (name, kind) => if (kind == NameKind.free) = true then do let c ← cellOf env name; pure (ForInStep.yield ((name, c) :: r)) else pure (ForInStep.yield r) : Sem (List (Str × Addr))) = pure cl ∧
      (∀ p ∈ cl, p ∈ cs ∨ env.cells.lookup p.1 = some p.2) ∧ (∀ p ∈ cs, p ∈ cl) ∧ (∀ n, (n, NameKind.free) ∈ names → ∃ c, (n, c) ∈ cl)
  | [], cs, _ => ⟨cs, by simp, fun p hp => .inl hp, fun p hp => hp, fun n hn => by cases hn⟩
  | (n, k) :: r, cs, h => by
    by_cases hk : (k == NameKind.free) = true
    · have hk' : k = NameKind.free := eq_of_beq hk
      subst hk'
      obtain ⟨c, hc⟩ := h n (List.mem_cons_self)
      obtain ⟨cl, e, h1, h2, h3⟩ := closure_of r ((n, c) :: cs) fun m hm => h m (List.mem_cons_of_mem _ hm)
      refine ⟨cl, ?_, fun p hp => ?_, fun p hp => h2 p (List.mem_cons_of_mem _ hp), fun m hm => ?_⟩
      · rw [List.forIn_cons]
        simp only [hk, if_true]
        unfold cellOf
        rw [hc]
        exact e
      · rcases h1 p hp with q | q
        · rcases List.mem_cons.mp q with q | q
          · subst q; exact .inr hc
          · exact .inl q
        · exact .inr q
      · rcases List.mem_cons.mp hm with q | q
        · cases q; exact ⟨c, h2 _ List.mem_cons_self⟩
        · exact h3 m q
    · obtain ⟨cl, e, h1, h2, h3⟩ := closure_of r cs fun m hm => h m (List.mem_cons_of_mem _ hm)
      refine ⟨cl, ?_, h1, h2, fun m hm => ?_⟩
      · rw [List.forIn_cons]
        simp only [hk]
        exact e
      · rcases List.mem_cons.mp hm with q | q
        · cases q; exact absurd rfl hk
        · exact h3 m q
theorem lookup_mem {κ : Type} [BEq κ] [LawfulBEq κ] {β : Type} : ∀ {l : List (κ × β)} {x : κ} {c : β}, l.lookup x = some c → (x, c) ∈ l
  | [], _, _, h => by simp at h
  | (n, k) :: r, x, c, h => by
    cases hx : x == n with
    | true =>
      simp only [List.lookup_cons, hx] at h
      cases h
      have e := eq_of_beq hx
      subst e
      exact List.mem_cons_self
    | false =>
      simp only [List.lookup_cons, hx] at h
      exact List.mem_cons_of_mem _ (lookup_mem h)
theorem mem_lookup {κ : Type} [BEq κ] [LawfulBEq κ] {β : Type} : ∀ {l : List (κ × β)} {x : κ} {c : β}, (x, c) ∈ l → ∃ c', l.lookup x = some c'
  | (n, k) :: r, x, c, h => by
    cases hx : x == n with
    | true => exact ⟨k, by simp only [List.lookup_cons, hx]⟩
    | false =>
      rcases List.mem_cons.mp h with q | q
      · cases q; simp at hx
      · obtain ⟨c', e⟩ := mem_lookup q
        exact ⟨c', by simp only [List.lookup_cons, hx]; exact e⟩
/-- the closure that a block takes along -/
theorem closure_ok {scope : Scope} {env : Env} (h : ∀ n, (n, NameKind.free) ∈ scope.names → ∃ c, env.cells.lookup n = some c) :
    ∃ cl, closureFor scope env = pure cl ∧ (∀ x c, cl.lookup x = some c → env.cells.lookup x = some c) ∧ ∀ n, (n, NameKind.free) ∈ scope.names → ∃ c, cl.lookup n = some c := by
  obtain ⟨cl, e, h1, _, h3⟩ := closure_of scope.names [] h
  refine ⟨cl, ?_, fun x c hx => ?_, fun n hn => ?_⟩
  · have e2 : closureFor scope env = ((forIn scope.names ([] : List (Str × Addr)) fun (x : Str × NameKind) (r : List (Str × Addr)) => match x with
          | (name, kind) => if (kind == NameKind.free) = true then do let c ← cellOf env name; pure (ForInStep.yield ((name, c) :: r)) else pure (ForInStep.yield r) : Sem (List (Str × Addr))) >>= fun r => pure r) := rfl
    rw [e2, e]
    rfl
  · rcases h1 _ (lookup_mem hx) with q | q
    · cases q
    · exact q
  · obtain ⟨c, hc⟩ := h3 n hn
    exact mem_lookup hc

/-- the context of a comprehension's block: N' its names, ex its iterator's records and its list -/
def compCx (X : Cx) (N' : List Str) (scope : Scope) (cl : List (Str × Addr)) (C : Addr) (ex : List Addr) (s0 : Shared) (H0 : Hp) : Cx :=
  { X with N := N', s₀ := s0, H₀ := H0, env := compEnvC scope cl C X.env, outer := X.stack, stack := X.stack, ex := ex, fn := fun _ => false, pn := [], xe := fun _ _ => False }
end L2

set_option Elab.async false
set_option linter.all false
set_option maxRecDepth 100000
set_option maxHeartbeats 4000000
namespace L2
open PySem PySem.Spec PyProof.Rows
section
variable {X : Cx} {pins : List (Addr × Obj)} {σ : St} {H : Hp} {s : Shared}
/-- an object of ours, not tracked so far, is tracked from here on -/
theorem Inv.track {a : Addr} {o : HO} (I : Inv X pins σ H s) (f : FpOk X pins H a) (new : ObjOk X.prog X.w (upd H a o) s.heap a o) : Inv X pins σ (upd H a o) s := by
  obtain ⟨f0, f1, f2, f3, f4, f5⟩ := f
  have ne : ∀ b u, H b = some u → b ≠ a := fun b u e => ne_of_none e f0
  refine ⟨I.ok, I.os, I.bare, ⟨I.base.keep, I.base.slot, fun b ob e n hx => ?_, I.base.there, fun b xs e => ?_, fun b ob u e => ?_, fun b ps e => ?_⟩, I.loc, I.cell, ?_, fun x c e => ?_, fun p hp => ?_, fun b u e => ?_, I.len⟩
  · have hb : b ≠ a := by
      rintro rfl
      rcases f3 with z | z
      · exact hx z
      · exact absurd (Nat.lt_of_lt_of_le (Heap.lt_size e) z) (Nat.lt_irrefl _)
    rw [upd_ne hb]
    exact I.base.free b ob e n hx
  · have q := I.base.tups b xs e
    rw [upd_ne (ne _ _ q)]; exact q
  · have q := I.base.frzs b ob u e
    rw [upd_ne (ne _ _ q)]; exact q
  · obtain ⟨more, q⟩ := I.base.tbls b ps e
    exact ⟨more, by rw [upd_ne (ne _ _ q)]; exact q⟩
  · rw [upd_ne (Ne.symm f1)]; exact I.free
  · rw [upd_ne (f4 x c e)]; exact I.freeC x c e
  · obtain ⟨e, n, ne', nf, d⟩ := I.pin p hp
    exact ⟨e, by rw [upd_ne (f5 p hp)]; exact n, ne', nf, d⟩
  · by_cases hb : b = a
    · subst hb
      rw [upd_same] at e; cases e
      exact new
    · rw [upd_ne hb] at e
      exact (I.hok b u e).stay (fun c v _ q => q) (fun c q => by rw [upd_ne (ne _ _ q)]; exact q) fun c xs q => by rw [upd_ne (ne _ _ q)]; exact q
end

/-- the tests of a clause -/
def PTs (X : Cx) (ifs : List Expr) (t : TT) : Prop :=
  ∀ (pins : List (Addr × Obj)) (s : Shared) (σ : St) (H : Hp) (Q : Bool → Hp → Prop), Inv X pins σ H s → t σ H Q →
    wpAny (model X.prog X.w) X.A (forIn ifs true fun c r => if r = true then do let ok ← isTrue c X.env (eval c X.env); pure (ForInStep.yield ok) else pure (ForInStep.yield r)) (TP X pins σ Q) X.xe s
def tNoTest : TT := fun _ H Q => Q true H
theorem pts_nil {X : Cx} : PTs X [] tNoTest := fun _ _ _ H _ I h => wpAny_tests_nil ⟨H, I, h⟩
theorem pts_one {X : Cx} {c : Expr} {t : TT} (h : PT X c t) : PTs X [c] t := fun pins s σ H Q I q => wpAny_tests_one (h pins s σ H Q I q)

/-- slot i of the block is slot j of the body (some j), or the block's own (none) -/
def liftSt (src : List (Option Nat)) (σ : St) : St := src.map fun o => match o with | some j => (σ[j]?).getD none | none => none
def tComp (src : List (Option Nat)) (wi : TI) (g : TG) (tt : TT) (te : TE) : TE := fun σ H Q => wi σ H fun J H1 => ∃ W : Nat → Nat → List V → St → Hp → Prop, (∃ m, W 0 m [] (liftSt src σ) H1) ∧ ∀ i m ys σc H, W i m ys σc H →
  (J.stop i H ∧ ∀ l, H l = none → Q (.ref l) (upd H l (.lst ys))) ∨
  (J.go i H ∧ ys.length < sizeLine ∧ ∀ x H', J.yld i H x H' → g x σc H' fun σ2 H2 => tt σ2 H2 fun b H3 =>
    if b = true then te σ2 H3 fun v H4 => ∃ m', m' < m ∧ W (i + 1) m' (ys ++ [v]) σ2 H4 else ∃ m', m' < m ∧ W (i + 1) m' ys σ2 H3)

section
variable {X : Cx} {elt tg iter : Expr} {ifs : List Expr} {scope : Scope} {pos : Pos} {N' : List Str} {src : List (Option Nat)} {wi : TI} {g : TG} {tt : TT} {te : TE}

theorem relabel_free {env : Env} : ∀ {names : List (Str × NameKind)} {x : Str} {k : NameKind}, (names.map fun (n, k) => if (k == NameKind.free && env.scope.kind == .function && env.kindOf n == some .cell) then (n, NameKind.cell) else (n, k)).lookup x = some k →
    (k = .cell ∨ k = .free) → (∀ y ∈ names, y.2 ≠ .cell) → (x, NameKind.free) ∈ names
  | [], _, _, h, _, _ => by simp at h
  | (n, k') :: r, x, k, h, hk, hc => by
    have ih := @relabel_free env r x k
    have h' : List.lookup x ((if (k' == NameKind.free && env.scope.kind == .function && env.kindOf n == some .cell) = true then (n, NameKind.cell) else (n, k')) :: (r.map fun (n, k) => if (k == NameKind.free && env.scope.kind == .function && env.kindOf n == some .cell) then (n, NameKind.cell) else (n, k))) = some k := h
    by_cases hx : x = n
    · subst hx
      by_cases hf : k' = .free
      · subst hf; exact List.mem_cons_self
      · have e : (k' == NameKind.free) = false := by simpa using hf
        rw [e] at h'
        simp only [Bool.false_and, Bool.false_eq_true, if_false, List.lookup_cons, beq_self_eq_true] at h'
        have e' : k' = k := Option.some.inj h'
        rcases hk with q | q
        · exact absurd (e'.trans q) (hc (x, k') List.mem_cons_self)
        · exact absurd (e'.trans q) hf
    · have e : (x == n) = false := by simpa using hx
      have h2 : (r.map fun (n, k) => if (k == NameKind.free && env.scope.kind == .function && env.kindOf n == some .cell) then (n, NameKind.cell) else (n, k)).lookup x = some k := by
        by_cases hc2 : (k' == NameKind.free && env.scope.kind == .function && env.kindOf n == some .cell) = true
        · rw [if_pos hc2] at h'; simp only [List.lookup_cons, e] at h'; exact h'
        · rw [if_neg hc2] at h'; simp only [List.lookup_cons, e] at h'; exact h'
      exact List.mem_cons_of_mem _ (ih h2 hk fun y hy => hc y (List.mem_cons_of_mem _ hy))

/-- what a comprehension's scope must be (each by rfl or decide) -/
structure CompScope (X : Cx) (scope : Scope) (N' : List Str) (src : List (Option Nat)) : Prop where
  kind : scope.kind = .function
  cell : ∀ y ∈ scope.names, y.2 ≠ .cell
  names : ∀ x ∈ scope.names, x.2 = .local → scope.names.lookup x.1 = some .local
  fr : ∀ n, (n, NameKind.free) ∈ scope.names → X.env.kindOf n = some .cell ∨ X.env.kindOf n = some .free
  excl : ∀ n, (n, NameKind.free) ∈ scope.names → ¬ scope.names.lookup n = some .local
  len : N'.length = src.length
  src : ∀ (i j : Nat), src[i]? = some (some j) → ∃ x : Str, N'[i]? = some x ∧ X.N[j]? = some x ∧ (x, NameKind.free) ∈ scope.names

/-- the block's own context, as it is entered -/
theorem comp_enter {cl : List (Str × Addr)} {C D : Addr} {fp : List Addr} {pins : List (Addr × Obj)} {σ : St} {H : Hp} {s3 : Shared} {h1 : Heap} {tk : Nat} (S : CompScope X scope N' src) (I3 : Inv X pins σ H s3)
    (hcl1 : ∀ x c, cl.lookup x = some c → X.env.cells.lookup x = some c) (hcl2 : ∀ n, (n, NameKind.free) ∈ scope.names → ∃ c, cl.lookup n = some c) (hC : C = s3.heap.objs.size)
    (hf : ∀ b ∈ D :: fp, FpOk X pins H b) (hlt : ∀ b ∈ D :: fp, b < s3.heap.objs.size) (hns : h1.Ns C (fun _ => none)) (hk : ∀ b o, s3.heap.get? b = some o → h1.get? b = some o) :
    Inv (compCx X N' scope cl C (D :: fp) s3 H) [] (liftSt src σ) H { s3 with heap := h1, toks := tk } := by
  have neC : ∀ b o, s3.heap.get? b = some o → b ≠ C := fun b o e => by rw [hC]; exact Nat.ne_of_lt (Heap.lt_size e)
  have HC : H C = none := I3.hok.fresh (Nat.le_of_eq hC.symm)
  have ok : (compCx X N' scope cl C (D :: fp) s3 H).Ok := by
    refine ⟨I3.ok.mod, S.kind, I3.ok.glob, I3.ok.blt, Nat.le_of_eq hC.symm, fun x y c e1 e2 => I3.ok.inj x y c (hcl1 x c e1) (hcl1 y c e2), fun x hx => ?_, fun x c z => absurd z Bool.false_ne_true, I3.ok.hd, I3.ok.frames, .inl rfl, fun b hb => ⟨?_, fun x c e => ?_⟩, I3.bs, Nat.le_trans I3.ok.bsz I3.sz, fun b o e hb => ?_, fun b hb => ?_, I3.stack, I3.stkFree⟩
    · refine hcl2 x ?_
      rcases hx with z | z
      · exact relabel_free (env := X.env) (show ((scope.names.map _).lookup x) = some .cell from z) (.inl rfl) S.cell
      · exact relabel_free (env := X.env) (show ((scope.names.map _).lookup x) = some .free from z) (.inr rfl) S.cell
    · show b ≠ C
      rw [hC]; exact Nat.ne_of_lt (hlt b hb)
    · exact (hf b hb).2.2.2.2.1 x c (hcl1 x c e)
    · rcases (hf b hb).2.2.2.1 with z | z
      · exact I3.ok.noex b o e z
      · exact absurd (Nat.lt_of_lt_of_le (Nat.lt_of_lt_of_le (Heap.lt_size e) I3.ok.bsz) z) (Nat.lt_irrefl _)
    · intro z
      have z' : b ∈ frs X.stack := z
      rcases List.mem_cons.mp (I3.stkSub b z') with q | q
      · exact (hf b hb).2.1 q
      · exact (hf b hb).2.2.1 q
  refine ⟨ok, rfl, I3.bare, Un.kept hk, ⟨_, hns, fun i x v e1 e2 e3 => ?_⟩, fun x c e => ?_, HC, fun x c e => I3.freeC x c (hcl1 x c e), fun p hp => absurd (show p ∈ ([] : List (Addr × Obj)) from hp) (by simp), I3.hok.kept hk, ?_⟩
  · have e2' : (src.map fun o => match o with | some j => (σ[j]?).getD none | none => none)[i]? = some (some v) := e2
    rw [List.getElem?_map] at e2'
    cases q : src[i]? with
    | none => rw [q] at e2'; cases e2'
    | some o =>
      rw [q] at e2'
      cases o with
      | none => cases e2'
      | some j =>
        obtain ⟨x', hx1, hx2, hx3⟩ := S.src i j q
        have ex : x' = x := Option.some.inj (hx1.symm.trans e1)
        subst ex
        have ev : σ[j]? = some (some v) := by
          cases q2 : σ[j]? with
          | none => simp [q2] at e2'
          | some o => simp [q2] at e2'; rw [e2']
        obtain ⟨m, hn, hl⟩ := I3.loc
        have hkind := S.fr x' hx3
        obtain ⟨u, r, l⟩ := hl j x' v hx2 ev (by
          rcases hkind with z | z
          · exact .inr (.inl z)
          · exact .inr (.inr z))
        refine ⟨u, r, .inr ⟨?_, ?_⟩⟩
        · rcases e3 with z | z | z
          · exfalso
            have z' : (scope.names.map fun (n, k) => if (k == NameKind.free && X.env.scope.kind == .function && X.env.kindOf n == some .cell) then (n, NameKind.cell) else (n, k)).lookup x' = some .local := z
            rcases l with ⟨k, _⟩ | ⟨_, c, hc, hcell⟩
            · rcases hkind with y | y <;> (rw [y] at k; cases k)
            · exact (show False by
                have := S.names
                have hm := hx3
                clear e2 e2'
                have key : ∀ (names : List (Str × NameKind)), (names.map fun (n, k) => if (k == NameKind.free && X.env.scope.kind == .function && X.env.kindOf n == some .cell) then (n, NameKind.cell) else (n, k)).lookup x' = some .local →
                    names.lookup x' = some .local := by
                  intro names
                  induction names with
                  | nil => intro h; simp at h
                  | cons y r ih =>
                    obtain ⟨n, k⟩ := y
                    intro h
                    have h' : List.lookup x' ((if (k == NameKind.free && X.env.scope.kind == .function && X.env.kindOf n == some .cell) = true then (n, NameKind.cell) else (n, k)) :: (r.map fun (n, k) => if (k == NameKind.free && X.env.scope.kind == .function && X.env.kindOf n == some .cell) then (n, NameKind.cell) else (n, k))) = some .local := h
                    by_cases hx : (x' == n) = true
                    · by_cases hc2 : (k == NameKind.free && X.env.scope.kind == .function && X.env.kindOf n == some .cell) = true
                      · rw [if_pos hc2] at h'; simp only [List.lookup_cons, hx] at h'; cases h'
                      · rw [if_neg hc2] at h'; simp only [List.lookup_cons, hx] at h' ⊢; exact h'
                    · have hx' : (x' == n) = false := by simpa using hx
                      by_cases hc2 : (k == NameKind.free && X.env.scope.kind == .function && X.env.kindOf n == some .cell) = true
                      · rw [if_pos hc2] at h'; simp only [List.lookup_cons, hx'] at h' ⊢; exact ih h'
                      · rw [if_neg hc2] at h'; simp only [List.lookup_cons, hx'] at h' ⊢; exact ih h'
                have z2 := key _ z'
                obtain ⟨c2, hc2⟩ := hcl2 x' hx3
                exact S.excl x' hx3 z2)
          · exact .inl z
          · exact .inr z
        · rcases l with ⟨k, _⟩ | ⟨_, c, hc, hcell⟩
          · rcases hkind with y | y <;> (rw [y] at k; cases k)
          · obtain ⟨c2, hc2⟩ := hcl2 x' hx3
            have e := hcl1 x' c2 hc2
            rw [hc] at e; cases e
            obtain ⟨oc, ho, hd⟩ := hcell
            exact ⟨c, hc2, oc, hk c oc ho, hd⟩
  · obtain ⟨v, oc, ho, hd⟩ := I3.cell x c (hcl1 x c e)
    exact ⟨v, oc, hk c oc ho, hd⟩
  · show (src.map _).length = N'.length
    rw [List.length_map, S.len]

/-- what stands behind the block: the list is tracked, the block's names are let go -/
theorem comp_leave {cl : List (Str × Addr)} {C D : Addr} {fp : List Addr} {pins pinsY : List (Addr × Obj)} {σ σc : St} {H H' : Hp} {s3 s4 : Shared} {h' : Heap} {ys : List V} {us : List Value} (I3 : Inv X pins σ H s3) (hC : C = s3.heap.objs.size)
    (hf : ∀ b ∈ D :: fp, FpOk X pins H b) (hlt : ∀ b ∈ D :: fp, b < s3.heap.objs.size) (IY : Inv (compCx X N' scope cl C (D :: fp) s3 H) pinsY σc H' s4) (hD : H' D = none) (pl : s4.heap.PlainList D us.toArray) (rv : Vals ys us) (hz : ys.length ≤ sizeLine)
    (hs : Heap.SameBut C s4.heap h') : Inv X pins σ (upd H' D (.lst ys)) { s4 with heap := h' } := by
  have J : Inv X pins σ H' s4 := I3.call' IY.os IY.base IY.hok IY.bare (ch := D :: fp) fun b hb => ⟨(hf b hb).2.2.2.1, (hf b hb).2.1, (hf b hb).2.2.2.2.1, (hf b hb).2.2.2.2.2⟩
  have fC : FpOk X pins H' C := I3.fpOk (Nat.le_of_eq hC.symm) IY.free
  have J2 : Inv X pins σ H' { s4 with heap := h' } := J.turned (t' := s4.toks) (fun b o hb e => (hs.2 b hb).trans e) fC.1 fC.2.1 fC.2.2.2.1 fC.2.2.2.2.1 fC.2.2.2.2.2
  have hDC : D ≠ C := by rw [hC]; exact Nat.ne_of_lt (hlt D List.mem_cons_self)
  obtain ⟨n, e⟩ := pl
  have fD := hf D List.mem_cons_self
  exact J2.track ⟨hD, fD.2⟩ ⟨hz, us, n, rv, (hs.2 D hDC).trans e⟩

theorem comp_run {cl : List (Str × Addr)} {C D it : Addr} {fp : List Addr} {tn : Nat → Heap → Prop} {J : It} {pins : List (Addr × Obj)} {σ σ0 : St} {H : Hp} {s3 s4 : Shared} {R : Result → Shared → Prop} {W : Nat → Nat → List V → St → Hp → Prop} {m0 : Nat} {Q : List V → Hp → Prop}
    (hc : X.calm = true) (T : Turn X.prog X.w X.K tg J fp it tn) (I3 : Inv X pins σ H s3) (hC : C = s3.heap.objs.size)
    (hf : ∀ b ∈ D :: fp, FpOk X pins H b) (hlt : ∀ b ∈ D :: fp, b < s3.heap.objs.size) (hDf : D ∉ fp) (IY : Inv (compCx X N' scope cl C (D :: fp) s3 H) [] σ0 H s4) (st : tn 0 s4.heap) (pl : s4.heap.PlainList D #[])
    (hg : PG (compCx X N' scope cl C (D :: fp) s3 H) tg g) (ht : PTs (compCx X N' scope cl C (D :: fp) s3 H) ifs tt) (he : PE (compCx X N' scope cl C (D :: fp) s3 H) elt te) (w0 : W 0 m0 [] σ0 H)
    (turn : ∀ i m ys σc H, W i m ys σc H → (J.stop i H ∧ Q ys H) ∨ (J.go i H ∧ ys.length < sizeLine ∧ ∀ x H', J.yld i H x H' → g x σc H' fun σ2 H2 => tt σ2 H2 fun b H3 =>
      if b = true then te σ2 H3 fun v H4 => ∃ m', m' < m ∧ W (i + 1) m' (ys ++ [v]) σ2 H4 else ∃ m', m' < m ∧ W (i + 1) m' ys σ2 H3))
    (fin : ∀ s5 σc H' ys us pinsY, Inv (compCx X N' scope cl C (D :: fp) s3 H) pinsY σc H' s5 → H' D = none → s5.heap.PlainList D us.toArray → Vals ys us → ys.length ≤ sizeLine → Q ys H' → R (.ok .next) s5) :
    codeAny (model X.prog X.w) X.A (.compLoop (.ListComp elt [⟨tg, iter, ifs, 0⟩] scope pos) 0 (.ref it) (.ref D) (compEnvC scope cl C X.env)) R s4 := by
  have eY : (compCx X N' scope cl C (D :: fp) s3 H).env = compEnvC scope cl C X.env := rfl
  generalize hY : compCx X N' scope cl C (D :: fp) s3 H = Y at *
  have e1 : Y.prog = X.prog := by rw [← hY]; rfl
  have e2 : Y.w = X.w := by rw [← hY]; rfl
  have e3 : Y.K = X.K := by rw [← hY]; rfl
  have e4 : Y.A = X.A := by rw [← hY]; rfl
  have e5 : Y.calm = true := by rw [← hY]; exact hc
  have e6 : Y.xe = fun _ _ => False := by rw [← hY]; rfl
  have e7 : Y.env.locals = C := by rw [eY]; rfl
  have e8 : Y.ex = D :: fp := by rw [← hY]; rfl
  have e9 : Y.pn = [] := by rw [← hY]; rfl
  have e10 : Y.fs = frs X.stack := by rw [← hY]; rfl
  have e11 : ∀ x c, Y.env.cells.lookup x = some c → ∀ b ∈ D :: fp, c ≠ b := fun x c e b hb => (IY.ok.exf b (by rw [e8]; exact hb)).2 x c e
  have nst : ∀ b ∈ D :: fp, b ∉ Y.fs := fun b hb => IY.ok.exfs b (by rw [e8]; exact hb)
  have fpY : ∀ (pinsY : List (Addr × Obj)) (H' : Hp), (∀ p ∈ pinsY, p.1 = D) → ∀ b ∈ fp, H' b = none → FpOk Y pinsY H' b := fun pinsY H' hp b hb hn =>
    ⟨hn, by rw [e7, hC]; exact Nat.ne_of_lt (hlt b (List.mem_cons_of_mem _ hb)), nst b (List.mem_cons_of_mem _ hb), .inl (by rw [e8]; exact List.mem_cons_of_mem _ hb), fun x c e => e11 x c e b (List.mem_cons_of_mem _ hb), fun p hp' z => by
      rw [e9, List.nil_append] at hp'
      have q := hp p hp'
      rw [z] at q
      rw [q] at hb
      exact hDf hb⟩
  have fpD : ∀ (pinsY : List (Addr × Obj)) (H' : Hp), (∀ p ∈ pinsY, p.1 ≠ D) → H' D = none → FpOk Y pinsY H' D := fun pinsY H' hp hn =>
    ⟨hn, by rw [e7, hC]; exact Nat.ne_of_lt (hlt D List.mem_cons_self), nst D List.mem_cons_self, .inl (by rw [e8]; exact List.mem_cons_self), fun x c e => e11 x c e D List.mem_cons_self, fun p hp' => by
      rw [e9, List.nil_append] at hp'
      exact hp p hp'⟩
  have T' : Turn Y.prog Y.w Y.K tg J fp it tn := by rw [e1, e2, e3]; exact T
  rw [← eY, ← e1, ← e2, ← e4]
  refine compLoop_gen (fun n s' => ∃ i ys us σc H', Inv Y [] σc H' s' ∧ tn i s'.heap ∧ (∀ b ∈ fp, H' b = none) ∧ H' D = none ∧ s'.heap.PlainList D (us : List Value).toArray ∧ Vals ys us ∧ ys.length ≤ sizeLine ∧ W i n ys σc H') ?_ m0
    ⟨0, [], [], σ0, H, IY, st, fun b hb => (hf b (List.mem_cons_of_mem _ hb)).1, (hf D List.mem_cons_self).1, pl, .nil, Nat.zero_le _, w0⟩
  rintro n s5 ⟨i, ys, us, σc, H5, I5, st5, fr5, hD5, pl5, rv5, hz5, w5⟩
  obtain ⟨nn, hob⟩ := id pl5
  -- D is pinned as it stands
  have I5' : Inv Y [(D, { cls := .type "list", data := .seq us.toArray nn })] σc H5 s5 := I5.pins_of fun p hp => by
    rw [List.mem_singleton] at hp
    subst hp
    exact ⟨hob, hD5, by rw [e7, hC]; exact Nat.ne_of_lt (hlt D List.mem_cons_self), nst D List.mem_cons_self, fun v z => by
      have z' : Data.seq us.toArray nn = Data.cell v := z
      cases z'⟩
  have f5 : ∀ b ∈ fp, FpOk Y [(D, { cls := .type "list", data := .seq us.toArray nn })] H5 b := fun b hb => fpY _ _ (fun p hp => by rw [List.mem_singleton] at hp; rw [hp]) b hb (fr5 b hb)
  rcases turn i n ys σc H5 w5 with ⟨stop, q⟩ | ⟨go, hz, step⟩
  · refine thn (T'.done Y rfl rfl rfl e5 i _ s5 σc H5 (fun _ _ => False) I5' f5 st5 stop) fun r s6 ⟨hr, I6⟩ => ?_
    subst hr
    exact fin s6 σc H5 ys us _ I6 hD5 ⟨nn, (I6.pin (D, _) (List.mem_append_right _ List.mem_cons_self)).1⟩ rv5 hz5 q
  · refine thn (T'.item Y rfl rfl rfl e5 i _ s5 σc H5 (fun _ _ => False) I5' f5 st5 go) fun r s6 ⟨u, hr, h6⟩ => ?_
    subst hr
    refine thn h6 fun _ s7 ⟨x, H7, I7, r7, y7, st7, fr7⟩ => ?_
    have f7 : ∀ b ∈ fp, FpOk Y [(D, { cls := .type "list", data := .seq us.toArray nn })] H7 b := fun b hb => fpY _ _ (fun p hp => by rw [List.mem_singleton] at hp; rw [hp]) b hb (fr7 b hb)
    have I7' := I7.pinned f7 (T.obj _ _ st7)
    have hx := hg _ s7 σc H7 x u _ I7' r7 (step x H7 y7)
    rw [e6] at hx
    refine thn hx fun _ s8 ⟨σ8, H8, I8, q8⟩ => ?_
    have hx2 := ht _ s8 σ8 H8 _ I8 q8
    rw [e6] at hx2
    -- behind a turn: the records stand as they stood
    have keepT : ∀ {σ9 : St} {H9 : Hp} {s9 : Shared}, Inv Y ([(D, { cls := .type "list", data := .seq us.toArray nn })] ++ pinsAt fp s7.heap) σ9 H9 s9 → tn (i + 1) s9.heap ∧ (∀ b ∈ fp, H9 b = none) ∧ H9 D = none ∧ s9.heap.get? D = some { cls := .type "list", data := .seq us.toArray nn } := fun {σ9 H9 s9} I9 => by
      have pD := I9.pin (D, _) (List.mem_append_right _ (List.mem_append_left _ List.mem_cons_self))
      refine ⟨T.keep _ _ _ st7 fun b hb o e => (I9.pin (b, o) (List.mem_append_right _ (List.mem_append_right _ (mem_pinsAt hb e)))).1, fun b hb => ?_, pD.2.1, pD.1⟩
      obtain ⟨o, e, d⟩ := T.obj _ _ st7 b hb
      exact (I9.pin (b, o) (List.mem_append_right _ (List.mem_append_right _ (mem_pinsAt hb e)))).2.1
    refine thn hx2 fun ok s9 ⟨H9, I9, q9⟩ => ?_
    cases ok with
    | false =>
      rw [if_neg Bool.false_ne_true] at q9
      rw [if_neg Bool.false_ne_true]
      obtain ⟨m', hm, w9⟩ := q9
      obtain ⟨k1, k2, k3, k4⟩ := keepT I9
      exact ⟨m', hm, i + 1, ys, us, σ8, H9, I9.pins_of (fun p hp => nomatch hp), k1, k2, k3, ⟨nn, k4⟩, rv5, hz5, w9⟩
    | true =>
      rw [if_pos rfl] at q9
      rw [if_pos rfl]
      have hx3 := he _ s9 σ8 H9 _ I9 q9
      rw [e6] at hx3
      refine thn hx3 fun xv s10 ⟨v, H10, I10, r10, m', hm, w10⟩ => ?_
      obtain ⟨k1, k2, k3, k4⟩ := keepT I10
      have hl := rv5.length
      refine wpAny_list_append_plain ⟨nn, k4⟩ (fun h' pl' sb => ?_) (by rw [List.size_toArray]; omega)
      have fD := fpD [] H10 (fun p hp => nomatch hp) k3
      have I11 : Inv Y [] σ8 H10 { s10 with heap := h' } := (I10.pins_of (pins' := []) fun p hp => nomatch hp).turned (t' := s10.toks) (fun b o hb e => (sb.2 b hb).trans e) fD.1 fD.2.1 fD.2.2.2.1 fD.2.2.2.2.1 fD.2.2.2.2.2
      refine ⟨m', hm, i + 1, ys ++ [v], us ++ [xv], σ8, H10, I11, T.keep _ _ _ k1 (fun b hb o e => (sb.2 b ?_).trans e), k2, k3, ?_, rv5.append (.cons r10 .nil), ?_, w10⟩
      · intro z; rw [z] at hb; exact hDf hb
      · rw [show (us ++ [xv]).toArray = us.toArray.push xv by simp]; exact pl'
      · rw [List.length_append, List.length_singleton]; exact hz

/-- [elt for tg in iter if ..] -/
theorem pe_comp (hc : X.calm = true) (S : CompScope X scope N' src) (hi : PI X tg iter wi)
    (hb : ∀ cl C ex s0 H0, PG (compCx X N' scope cl C ex s0 H0) tg g ∧ PTs (compCx X N' scope cl C ex s0 H0) ifs tt ∧ PE (compCx X N' scope cl C ex s0 H0) elt te)
    (hs : ∀ x, foldedSetIterable iter X.env x = pure x := by intro _; rfl) : PE X (.ListComp elt [⟨tg, iter, ifs, 0⟩] scope pos) (tComp src wi g tt te) := by
  intro pins s σ H Q I h
  obtain ⟨cl, hclos, hcl1, hcl2⟩ := closure_ok (scope := scope) (env := X.env) fun n hn => I.ok.has n (S.fr n hn)
  rw [eval_ListComp]
  refine wpAny_comprehension_free (use := none) rfl hs hclos S.kind S.names ?_
  refine thn (hi pins s σ H _ I h) fun v s1 h1 => thn h1 fun itv s2 h2 => ?_
  obtain ⟨it, fp, tn, J, H2, e, I2, T, st2, f2, W, ⟨m0, w0⟩, turn⟩ := h2
  subst e
  refine wpAny_newObj_type (wpAny_newFunctionEnv S.cell (by intro y hy; simp at hy) (fun h₁ hns₁ hsb₁ => ?_) S.kind)
  dsimp only at hns₁ hsb₁ ⊢
  generalize hH3 : s2.heap.push { cls := .type "list", dict := none, data := .seq ([] : List Value).toArray } = H3 at hns₁ hsb₁ ⊢
  have hsz : H3.objs.size = s2.heap.objs.size + 1 := by rw [← hH3, Heap.size_push]
  have I3 : Inv X pins σ H2 { s2 with heap := H3 } := I2.kept (t' := s2.toks) fun b o e => by rw [← hH3]; exact Heap.get?_push_of_some _ e
  have fD : FpOk X pins H2 s2.heap.objs.size := I2.fpOk (Nat.le_refl _) (I2.hok.fresh (Nat.le_refl _))
  have hDf : s2.heap.objs.size ∉ fp := fun hm => by
    obtain ⟨o, e, _⟩ := T.obj 0 _ st2 _ hm
    exact Nat.lt_irrefl _ (Heap.lt_size e)
  have hf : ∀ b ∈ s2.heap.objs.size :: fp, FpOk X pins H2 b := fun b hb => by
    rcases List.mem_cons.mp hb with z | z
    · rw [z]; exact fD
    · exact f2 b z
  have hlt : ∀ b ∈ s2.heap.objs.size :: fp, b < H3.objs.size := fun b hb => by
    rcases List.mem_cons.mp hb with z | z
    · rw [z, hsz]; exact Nat.lt_succ_self _
    · obtain ⟨o, e, _⟩ := T.obj 0 _ st2 b z
      rw [hsz]; exact Nat.lt_succ_of_lt (Heap.lt_size e)
  have kp : ∀ b o, H3.get? b = some o → h₁.get? b = some o := fun b o e => hsb₁.extBut b o (Nat.ne_of_lt (Heap.lt_size e)) (Heap.get?_push_of_some _ e)
  have kp0 : ∀ b o, s2.heap.get? b = some o → h₁.get? b = some o := fun b o e => kp b o (by rw [← hH3]; exact Heap.get?_push_of_some _ e)
  have hacc : h₁.PlainList s2.heap.objs.size #[] := ⟨_, kp _ _ (by rw [← hH3]; exact Heap.get?_push_size _ rfl)⟩
  have st1 : tn 0 h₁ := T.keep _ _ _ st2 fun b _ o e => kp0 b o e
  have IY := comp_enter (N' := N') (src := src) (scope := scope) (cl := cl) (C := H3.objs.size) (D := s2.heap.objs.size) (fp := fp) (s3 := { s2 with heap := H3 }) (h1 := h₁) (tk := s2.toks) S I3 hcl1 hcl2 rfl hf hlt hns₁ kp
  obtain ⟨hg, ht, he⟩ := hb cl H3.objs.size (s2.heap.objs.size :: fp) { s2 with heap := H3 } H2
  have loop := comp_run (R := compPost (model X.prog X.w) X.A X.xe none (EP X pins σ Q) (.ref s2.heap.objs.size) H3.objs.size) (elt := elt) (iter := iter) (ifs := ifs) (pos := pos) (Q := fun ys H => ∀ l, H l = none → Q (.ref l) (upd H l (.lst ys)))
    hc T I3 rfl hf hlt hDf IY st1 hacc hg ht he w0 turn (fun s5 σc H' ys us pinsY IY5 hD pl rv hz q => by
      obtain ⟨m, hn, _⟩ := IY5.loc
      refine ⟨m, hn, fun h' hs' => ⟨.ref s2.heap.objs.size, upd H' s2.heap.objs.size (.lst ys), ?_, rfl, q _ hD⟩⟩
      exact comp_leave I3 rfl hf hlt IY5 hD pl rv hz hs')
  exact codeAny_compStart_list loop (T.self _ 0 _ _ _ st1 loop)
end
end L2

set_option Elab.async false
set_option linter.all false
set_option maxRecDepth 100000
set_option maxHeartbeats 4000000
namespace L2
open PySem PySem.Spec PyProof.Rows

/-! ### a text, sign by sign -/
section
variable {X : Cx} {tg : Expr}

/-! ### comparisons of texts -/

/-! ### a slice of a text -/
def rSlS : V → Option Int → Option Int → Hp → VK → Prop := fun x lo hi H Q => ∃ z, x = .str z ∧ z.length ≤ sizeLine ∧ Q (.str (Txt.slice z lo hi)) H
theorem sl_str : SlR X rSlS := by
  intro pins s σ H x v vl vu lo hi sl Q I rx hs pl pu h
  obtain ⟨z, rfl, hz, q⟩ := h
  obtain ⟨t, rfl⟩ := rx
  refine ⟨"str", _, F.slot_str_getitem.lookup, typeIs_str _ _ _, ?_⟩
  obtain ⟨os, hos, hcs, hds⟩ := id hs
  have fin : ∀ t' k, EP X pins σ Q (.str (Txt.slice z lo hi) t') { s with toks := k } := fun t' k => ⟨.str _, H, I.tok _, ⟨_, rfl⟩, q⟩
  cases pl with
  | none =>
    cases pu with
    | none => exact wpAny_getItem_str_slice (l := none) (u := none) (st := none) ⟨os, hos, hcs, hds⟩ rfl (post_val_or_str ⟨Nat.le_trans (Txt.slice_le z _ _) hz, fin⟩)
    | int j uj => exact wpAny_getItem_str_slice (l := none) (u := some (j, uj)) (st := none) ⟨os, hos, hcs, hds⟩ rfl (post_val_or_str ⟨Nat.le_trans (Txt.slice_le z _ _) hz, fin⟩)
  | int i ui =>
    cases pu with
    | none => exact wpAny_getItem_str_slice (l := some (i, ui)) (u := none) (st := none) ⟨os, hos, hcs, hds⟩ rfl (post_val_or_str ⟨Nat.le_trans (Txt.slice_le z _ _) hz, fin⟩)
    | int j uj => exact wpAny_getItem_str_slice (l := some (i, ui)) (u := some (j, uj)) (st := none) ⟨os, hos, hcs, hds⟩ rfl (post_val_or_str ⟨Nat.le_trans (Txt.slice_le z _ _) hz, fin⟩)

/-! ### isinstance by a built-in class -/
theorem call_isinst : CallR X (.builtin "isinstance") (fun xs H Q => ∃ x T ty b, xs = [x, .ty T] ∧ TyOf X.K H x ty ∧ PySem.W.kitOne X.K ty (.type T) = some b ∧ Q (.bl b) H) := by
  intro pins s σ H xs us Q I r h
  obtain ⟨x, T, ty, b, rfl, h1, h2, q⟩ := h
  obtain ⟨u, w', rfl, rx, rT⟩ := vals2 r
  cases (show w' = Value.type T from rT)
  exact isinst_ok I rx h1 h2 fun tk => ⟨.bl b, H, I.tok _, rfl, q⟩

/-! ### all, any of a list of truths -/
theorem boolsAre : ∀ {bs : List Bool} {us : List Value}, Vals (bs.map V.bl) us → us = bs.map Value.bool
  | [], us, r => by cases r; rfl
  | b :: bs, us, r => by
    cases r with
    | cons r1 r2 => cases r1; rw [boolsAre r2]; rfl
theorem range_all' (bs : List Bool) : ((List.range bs.length).all fun i => (bs[i]?).getD true) = bs.all id := by
  rw [Bool.eq_iff_iff, List.all_eq_true, List.all_eq_true]
  constructor
  · intro h b hb
    obtain ⟨i, hi, rfl⟩ := List.getElem_of_mem hb
    have := h i (List.mem_range.mpr hi)
    simpa [List.getElem?_eq_getElem hi] using this
  · intro h i hi
    have hi' := List.mem_range.mp hi
    rw [List.getElem?_eq_getElem hi']
    exact h _ (List.getElem_mem hi')
theorem range_any' (bs : List Bool) : ((List.range bs.length).any fun i => (bs[i]?).getD false) = bs.any id := by
  rw [Bool.eq_iff_iff, List.any_eq_true, List.any_eq_true]
  constructor
  · rintro ⟨i, hi, h⟩
    have hi' := List.mem_range.mp hi
    rw [List.getElem?_eq_getElem hi'] at h
    exact ⟨_, List.getElem_mem hi', h⟩
  · rintro ⟨b, hb, h⟩
    obtain ⟨i, hi, rfl⟩ := List.getElem_of_mem hb
    exact ⟨i, List.mem_range.mpr hi, by rw [List.getElem?_eq_getElem hi]; exact h⟩
theorem call_all_of (hc : X.calm = true) : CallR X (.builtin "all") (fun xs H Q => ∃ (p : Addr) (bs : List Bool), xs = [.ref p] ∧ SqL X.K H p (bs.map V.bl) ∧ Q (.bl (bs.all id)) H) := by
  intro pins s σ H xs us Q I r h
  obtain ⟨p, bs, rfl, hq, q⟩ := h
  obtain ⟨u, rfl, rx⟩ := vals1 r
  cases rx
  obtain ⟨its, r', pl, hz⟩ := I.list hq
  have e := boolsAre r'
  subst e
  have hlt : p < s.heap.objs.size := by obtain ⟨_, e, _⟩ := pl.isList; exact Heap.lt_size e
  refine call_all_walk (wpAny_pyIter_list pl.isList ?_)
  refine ⟨s.heap.objs.size, [s.heap.objs.size, p], [s.heap.objs.size], (bs.map Value.bool).toArray.size, _, _, fun i => (bs[i]?).getD true, rfl, Walks.list (A := X.A.in1) (I.ok.hd hc) _ p (Nat.ne_of_lt hlt) (bs.map Value.bool).toArray,
    ⟨⟨_, Heap.get?_push_size _ rfl, rfl, rfl⟩, pl.isList.push _⟩, fun i v s' Q' E' hP hQ => ?_, fun h' tk hk => ?_⟩
  · have hP' : (bs.map Value.bool)[i]? = some v := by simpa using hP
    rw [List.getElem?_map] at hP'
    cases e : bs[i]? with
    | none => rw [e] at hP'; cases hP'
    | some b =>
      rw [e] at hP'
      cases hP'
      simp only [e, Option.getD_some] at hQ
      exact wpAny_truthy_bool hQ
  · have e : ((List.range (bs.map Value.bool).toArray.size).all fun i => (bs[i]?).getD true) = bs.all id := by
      rw [List.size_toArray, List.length_map]; exact range_all' bs
    rw [e]
    refine ⟨.bl _, H, I.kept fun b o eb => hk b o ?_ (Heap.get?_push_of_some _ eb), rfl, q⟩
    intro z
    rw [List.mem_singleton.mp z] at eb
    exact Nat.lt_irrefl _ (Heap.lt_size eb)
theorem call_any_of (hc : X.calm = true) : CallR X (.builtin "any") (fun xs H Q => ∃ (p : Addr) (bs : List Bool), xs = [.ref p] ∧ SqL X.K H p (bs.map V.bl) ∧ Q (.bl (bs.any id)) H) := by
  intro pins s σ H xs us Q I r h
  obtain ⟨p, bs, rfl, hq, q⟩ := h
  obtain ⟨u, rfl, rx⟩ := vals1 r
  cases rx
  obtain ⟨its, r', pl, hz⟩ := I.list hq
  have e := boolsAre r'
  subst e
  have hlt : p < s.heap.objs.size := by obtain ⟨_, e, _⟩ := pl.isList; exact Heap.lt_size e
  refine call_any_walk (wpAny_pyIter_list pl.isList ?_)
  refine ⟨s.heap.objs.size, [s.heap.objs.size, p], [s.heap.objs.size], (bs.map Value.bool).toArray.size, _, _, fun i => (bs[i]?).getD false, rfl, Walks.list (A := X.A.in1) (I.ok.hd hc) _ p (Nat.ne_of_lt hlt) (bs.map Value.bool).toArray,
    ⟨⟨_, Heap.get?_push_size _ rfl, rfl, rfl⟩, pl.isList.push _⟩, fun i v s' Q' E' hP hQ => ?_, fun h' tk hk => ?_⟩
  · have hP' : (bs.map Value.bool)[i]? = some v := by simpa using hP
    rw [List.getElem?_map] at hP'
    cases e : bs[i]? with
    | none => rw [e] at hP'; cases hP'
    | some b =>
      rw [e] at hP'
      cases hP'
      simp only [e, Option.getD_some] at hQ
      exact wpAny_truthy_bool hQ
  · have e : ((List.range (bs.map Value.bool).toArray.size).any fun i => (bs[i]?).getD false) = bs.any id := by
      rw [List.size_toArray, List.length_map]; exact range_any' bs
    rw [e]
    refine ⟨.bl _, H, I.kept fun b o eb => hk b o ?_ (Heap.get?_push_of_some _ eb), rfl, q⟩
    intro z
    rw [List.mem_singleton.mp z] at eb
    exact Nat.lt_irrefl _ (Heap.lt_size eb)

/-! ### == of two lists of flat items -/
def eqVs (xs ys : List V) : Bool := xs.length == ys.length && (List.range xs.length).all fun j => eqV (xs.getD j .non) (ys.getD j .non)
end
end L2

set_option Elab.async false
set_option linter.all false
set_option maxRecDepth 100000
set_option maxHeartbeats 4000000
namespace L2
open PySem PySem.Spec PyProof.Rows
section
variable {X : Cx} {elt tg iter : Expr} {ifs : List Expr} {scope : Scope} {pos : Pos} {N' : List Str} {src : List (Option Nat)} {wi : TI} {g : TG} {tt : TT} {te : TE}
/-- x = [elt for tg in iter if ..], the name a plain local -/
theorem ps_setComp {i : Nat} {x : Str} {pos' spos : Pos} (hc : X.calm = true) (hN : X.N.Nodup) (hix : X.N[i]? = some x) (hx : Loc X.env.scope x) (S : CompScope X scope N' src) (hi : PI X tg iter wi)
    (hb : ∀ cl C ex s0 H0, PG (compCx X N' scope cl C ex s0 H0) tg g ∧ PTs (compCx X N' scope cl C ex s0 H0) ifs tt ∧ PE (compCx X N' scope cl C ex s0 H0) elt te)
    (hsw : swapsWith (.ListComp elt [⟨tg, iter, ifs, 0⟩] scope pos) (some (.Name x pos')) spos.line X.env = pure true := by rfl)
    (hs : ∀ x, foldedSetIterable iter X.env x = pure x := by intro _; rfl)
    (hfn : X.fn x = true ∨ X.env.scope.names.lookup x = some .local := by first | exact .inl rfl | exact .inr rfl | assumption) :
    PS X (.Assign [.Name x pos'] (.ListComp elt [⟨tg, iter, ifs, 0⟩] scope pos) spos) (tAsg (tComp src wi g tt te) (gName i)) := by
  intro pins s σ H D I h
  obtain ⟨cl, hclos, hcl1, hcl2⟩ := closure_ok (scope := scope) (env := X.env) fun n hn => I.ok.has n (S.fr n hn)
  rw [exec_Assign_Name_used _ _ _ _ hsw]
  refine wpAny_bind (wpAny_standAt (wpAny_bind ?_))
  show wpAny _ _ (do let _ ← comprehension (.ListComp elt [⟨tg, iter, ifs, 0⟩] scope pos) scope X.env _ (newList []) false (eval iter X.env) (some (assign (.Name x pos') X.env))) _ _ s
  refine wpAny_bind (wpAny_mono (wpAny_comprehension_free (use := some (assign (.Name x pos') X.env)) (Q := fun _ s' => SP X pins D .next s') rfl hs hclos S.kind S.names ?_) (fun _ s' hq => wpAny_pure (wpAny_pure hq)) fun _ _ e => e)
  refine thn (hi pins s σ H _ I h) fun v s1 h1 => thn h1 fun itv s2 h2 => ?_
  obtain ⟨it, fp, tn, J, H2, e, I2, T, st2, f2, W, ⟨m0, w0⟩, turn⟩ := h2
  subst e
  refine wpAny_newObj_type (wpAny_newFunctionEnv S.cell (by intro y hy; simp at hy) (fun h₁ hns₁ hsb₁ => ?_) S.kind)
  dsimp only at hns₁ hsb₁ ⊢
  generalize hH3 : s2.heap.push { cls := .type "list", dict := none, data := .seq ([] : List Value).toArray } = H3 at hns₁ hsb₁ ⊢
  have hsz : H3.objs.size = s2.heap.objs.size + 1 := by rw [← hH3, Heap.size_push]
  have I3 : Inv X pins σ H2 { s2 with heap := H3 } := I2.kept (t' := s2.toks) fun b o e => by rw [← hH3]; exact Heap.get?_push_of_some _ e
  have fD : FpOk X pins H2 s2.heap.objs.size := I2.fpOk (Nat.le_refl _) (I2.hok.fresh (Nat.le_refl _))
  have hDf : s2.heap.objs.size ∉ fp := fun hm => by
    obtain ⟨o, e, _⟩ := T.obj 0 _ st2 _ hm
    exact Nat.lt_irrefl _ (Heap.lt_size e)
  have hf : ∀ b ∈ s2.heap.objs.size :: fp, FpOk X pins H2 b := fun b hb => by
    rcases List.mem_cons.mp hb with z | z
    · rw [z]; exact fD
    · exact f2 b z
  have hlt : ∀ b ∈ s2.heap.objs.size :: fp, b < H3.objs.size := fun b hb => by
    rcases List.mem_cons.mp hb with z | z
    · rw [z, hsz]; exact Nat.lt_succ_self _
    · obtain ⟨o, e, _⟩ := T.obj 0 _ st2 b z
      rw [hsz]; exact Nat.lt_succ_of_lt (Heap.lt_size e)
  have kp : ∀ b o, H3.get? b = some o → h₁.get? b = some o := fun b o e => hsb₁.extBut b o (Nat.ne_of_lt (Heap.lt_size e)) (Heap.get?_push_of_some _ e)
  have kp0 : ∀ b o, s2.heap.get? b = some o → h₁.get? b = some o := fun b o e => kp b o (by rw [← hH3]; exact Heap.get?_push_of_some _ e)
  have hacc : h₁.PlainList s2.heap.objs.size #[] := ⟨_, kp _ _ (by rw [← hH3]; exact Heap.get?_push_size _ rfl)⟩
  have st1 : tn 0 h₁ := T.keep _ _ _ st2 fun b _ o e => kp0 b o e
  have IY := comp_enter (N' := N') (src := src) (scope := scope) (cl := cl) (C := H3.objs.size) (D := s2.heap.objs.size) (fp := fp) (s3 := { s2 with heap := H3 }) (h1 := h₁) (tk := s2.toks) S I3 hcl1 hcl2 rfl hf hlt hns₁ kp
  obtain ⟨hg, ht, he⟩ := hb cl H3.objs.size (s2.heap.objs.size :: fp) { s2 with heap := H3 } H2
  have loop := comp_run (R := compPost (model X.prog X.w) X.A X.xe (some (assign (.Name x pos') X.env)) (fun _ s' => SP X pins D .next s') (.ref s2.heap.objs.size) H3.objs.size) (elt := elt) (iter := iter) (ifs := ifs) (pos := pos) (Q := fun ys H => ∀ l, H l = none → D.nx (σ.set i (some (.ref l))) (upd H l (.lst ys)))
    hc T I3 rfl hf hlt hDf IY st1 hacc hg ht he w0 turn (fun s5 σc H' ys us pinsY IY5 hD pl rv hz q => by
      have IX : Inv X pins σ (upd H' s2.heap.objs.size (.lst ys)) s5 := comp_leave (h' := s5.heap) I3 rfl hf hlt IY5 hD pl rv hz (.refl ..)
      show wpAny _ _ (assign (.Name x pos') X.env (.ref s2.heap.objs.size)) _ _ s5
      refine wpAny_assign_Name (store_ok2 (v := .ref s2.heap.objs.size) IX hN hix hx rfl (fun s6 I6 ⟨a, sb, ha⟩ => ?_) hfn)
      obtain ⟨m, hn, _⟩ := IY5.loc
      have fC : FpOk X pins (upd H' s2.heap.objs.size (.lst ys)) H3.objs.size := I3.fpOk (Nat.le_refl _) (by
        rw [upd_ne (by rw [hsz]; exact Nat.ne_of_gt (Nat.lt_succ_self _))]
        exact IY5.free)
      have hCa : H3.objs.size ≠ a := by
        rcases ha with z | z
        · rw [z]; exact fC.2.1
        · exact fun q => fC.2.2.2.2.1 x a z q.symm
      refine ⟨m, hn.sameBut sb hCa, fun h' hs' => ⟨_, _, I6.turned (t' := s6.toks) (fun b o hb e => (hs'.2 b hb).trans e) fC.1 fC.2.1 fC.2.2.2.1 fC.2.2.2.2.1 fC.2.2.2.2.2, q _ hD⟩⟩)
  exact codeAny_compStart_list loop (T.self _ 0 _ _ _ st1 loop)
end
end L2

set_option Elab.async false
set_option linter.all false
set_option maxRecDepth 100000
set_option maxHeartbeats 4000000
namespace L2
open PySem PySem.Spec PyProof.Rows
section
variable {X : Cx}
/-- // by a positive divisor below 2^64 -/
def CDivL (_ j : Int) : Prop := 0 < j ∧ j < 18446744073709551616
theorem op_fdivL : OpR X (binaryOp .FloorDiv) (rI CDivL fun i j => .int (i / j)) := opI fun i j _ _ _ _ _ hc q => by
  have h1 : (0 : Int) < j := hc.1
  have h2 : j < 18446744073709551616 := hc.2
  refine floordiv_int (by omega) (by rw [Int.fdiv_eq_ediv_of_nonneg i (by omega)]; exact q) (.inl (PyProof.noPylong_of_log2 ?_))
  have h64 : j.natAbs.log2 < 64 := (Nat.log2_lt (by omega)).mpr (by omega)
  omega
/-- != of two lists of flat items -/
theorem op_ne_list (hu : X.A.units < cLine) : OpR X (compareOp .NotEq) (fun x y H Q => ∃ a b xs ys, x = .ref a ∧ y = .ref b ∧ SqL X.K H a xs ∧ SqL X.K H b ys ∧ xs.all flatV = true ∧ ys.all flatV = true ∧ Q (.bl (!eqVs xs ys)) H) := by
  intro pins s σ H x y v u Q I rx ry h
  obtain ⟨a, b, xs, ys, rfl, rfl, hx, hy, fx, fy, q⟩ := h
  cases rx
  cases ry
  obtain ⟨its, r, pl, hz⟩ := I.list hx
  obtain ⟨its2, r2, pl2, hz2⟩ := I.list hy
  have hl := r.length
  have hl2 := r2.length
  by_cases hs : xs.length = ys.length
  · refine SeqAt.RcNeAt.lists (e := fun j => eqV (xs.getD j .non) (ys.getD j .non)) pl.isList pl2.isList (by simp only [List.size_toArray]; omega) hu (fun j h1 h2 => ?_) X.prog X.w _ _ ?_
    · simp only [List.size_toArray] at h1 h2
      have g1 : xs[j]? = some xs[j] := List.getElem?_eq_getElem (by omega)
      have g2 : ys[j]? = some ys[j] := List.getElem?_eq_getElem (by omega)
      obtain ⟨u1, e1, ru1⟩ := r.get g1
      obtain ⟨u2, e2, ru2⟩ := r2.get g2
      have k1 : its.toArray[j] = u1 := by
        have : its[j]? = some its[j] := List.getElem?_eq_getElem h1
        rw [e1] at this
        simpa using (Option.some.inj this).symm
      have k2 : its2.toArray[j] = u2 := by
        have : its2[j]? = some its2[j] := List.getElem?_eq_getElem h2
        rw [e2] at this
        simpa using (Option.some.inj this).symm
      rw [k1, k2, show xs.getD j .non = xs[j] by simp [List.getD, g1], show ys.getD j .non = ys[j] by simp [List.getD, g2]]
      exact eqAt_V ru1 ru2 (List.all_eq_true.mp fx _ (List.getElem_mem _)) (List.all_eq_true.mp fy _ (List.getElem_mem _))
    · refine fin_bl I q ?_
      unfold eqVs
      rw [List.size_toArray, ← hl, hs]
      simp
  · refine SeqAt.RcNeAt.lists_lengths pl.isList pl2.isList (by simp only [List.size_toArray, bne_iff_ne]; omega) hu X.prog X.w _ _ ?_
    refine fin_bl I q ?_
    unfold eqVs
    rw [beq_eq_false_iff_ne.mpr hs]
    rfl
end
end L2

set_option Elab.async false
set_option linter.all false
set_option maxRecDepth 100000
set_option maxHeartbeats 4000000
namespace L2
open PySem PySem.Spec PyProof.Rows
/-- a cut: what holds behind the statement, then the rest once -/
def tCut (t u : TS) : TS := fun D σ H => ∃ Pv : St → Hp → Prop, t { D with nx := Pv } σ H ∧ ∀ σ' H', Pv σ' H' → u D σ' H'
section
variable {X : Cx} {st : Stmt} {rest : List Stmt} {t u : TS}
theorem pss_cut (h1 : PS X st t) (h2 : PSs X rest u) : PSs X (st :: rest) (tCut t u) := by
  intro pins s σ H D I h
  obtain ⟨Pv, h, hr⟩ := h
  refine wpAny_execs_cons (thn (h1 pins s σ H { D with nx := Pv } I h) fun f s1 q => ?_)
  cases f with
  | next =>
    obtain ⟨σ', H', I', q⟩ := q
    exact h2 pins s1 σ' H' D I' (hr σ' H' q)
  | ret v => exact q
  | brk => exact q
  | cont => exact q
end
/-! a comprehension's scope, by one look -/
def compLook (kindOf : Str → Option NameKind) (XN : List Str) (scope : Scope) (N' : List Str) (src : List (Option Nat)) : Bool :=
  (scope.kind == .function) && (scope.names.all fun y => (y.2 != .cell) && (y.2 != .local || scope.names.lookup y.1 == some .local) && (y.2 != .free || ((kindOf y.1 == some .cell || kindOf y.1 == some .free) && scope.names.lookup y.1 != some .local))) &&
  (N'.length == src.length) && ((List.range src.length).all fun i => match src[i]? with
    | some (some j) => (match N'[i]?, XN[j]? with | some x, some y => x == y && scope.names.contains (x, NameKind.free) | _, _ => false)
    | _ => true)
theorem compScope_of {X : Cx} {scope : Scope} {N' : List Str} {src : List (Option Nat)} (sc : Scope) (hsc : X.env.scope = sc) (N : List Str) (hN : X.N = N) (h : compLook (fun x => sc.names.lookup x) N scope N' src = true) : CompScope X scope N' src := by
  subst hsc hN
  unfold compLook at h
  simp only [Bool.and_eq_true, List.all_eq_true, beq_iff_eq, bne_iff_ne, ne_eq, Bool.or_eq_true] at h
  obtain ⟨⟨⟨h1, h2⟩, h3⟩, h4⟩ := h
  refine ⟨h1, fun y hy => (h2 y hy).1.1, fun y hy hl => ?_, fun n hn => ?_, fun n hn => ?_, h3, fun i j e => ?_⟩
  · rcases (h2 y hy).1.2 with z | z
    · exact absurd hl z
    · exact z
  · rcases (h2 _ hn).2 with z | z
    · exact absurd rfl z
    · exact z.1
  · rcases (h2 _ hn).2 with z | z
    · exact absurd rfl z
    · exact z.2
  · have hi : i < src.length := (List.getElem?_eq_some_iff.mp e).1
    have q := h4 i (List.mem_range.mpr hi)
    rw [e] at q
    dsimp only at q
    cases e1 : N'[i]? with
    | none => rw [e1] at q; cases q
    | some x =>
      cases e2 : X.N[j]? with
      | none => rw [e1, e2] at q; cases q
      | some y =>
        rw [e1, e2] at q
        simp only [Bool.and_eq_true, beq_iff_eq] at q
        obtain ⟨rfl, q⟩ := q
        exact ⟨x, rfl, rfl, by simpa using q⟩
/-! the two usual comprehensions -/
def Nx (N i : Nat) (P : Prop) : Prop := ∃ m', m' < N - i ∧ m' = N - (i + 1) ∧ i + 1 ≤ N ∧ P
theorem nx {N i : Nat} {P : Prop} (h : i < N) (p : P) : Nx N i P := ⟨_, by omega, rfl, h, p⟩
section
variable {x : Str} {σ0 : St} {H : Hp} {g : TG} {tt : TT} {te : TE} {Q : List V → Hp → Prop}
theorem comp_range {lo : Int} {n : Nat} (Pv : Nat → List V → St → Hp → Prop) (h0 : Pv 0 [] σ0 H)
    (hs : ∀ i ys σc H, i < n → Pv i ys σc H → ys.length < sizeLine ∧ g (.int (lo + i)) σc H fun σ2 H2 => tt σ2 H2 fun b H3 =>
      if b = true then te σ2 H3 fun v H4 => Nx n i (Pv (i + 1) (ys ++ [v]) σ2 H4) else Nx n i (Pv (i + 1) ys σ2 H3))
    (hd : ∀ ys σc H, Pv n ys σc H → Q ys H) :
    ∃ W : Nat → Nat → List V → St → Hp → Prop, (∃ m, W 0 m [] σ0 H) ∧ ∀ i m ys σc H, W i m ys σc H →
      ((Itr lo n).stop i H ∧ Q ys H) ∨ ((Itr lo n).go i H ∧ ys.length < sizeLine ∧ ∀ v H', (Itr lo n).yld i H v H' → g v σc H' fun σ2 H2 => tt σ2 H2 fun b H3 =>
        if b = true then te σ2 H3 fun v H4 => ∃ m', m' < m ∧ W (i + 1) m' (ys ++ [v]) σ2 H4 else ∃ m', m' < m ∧ W (i + 1) m' ys σ2 H3) := by
  refine ⟨fun i m ys σc H => m = n - i ∧ i ≤ n ∧ Pv i ys σc H, ⟨_, rfl, Nat.zero_le _, h0⟩, ?_⟩
  rintro i m ys σc H ⟨rfl, hi, p⟩
  by_cases hlt : i < n
  · obtain ⟨z, _⟩ := hs i ys σc H hlt p
    refine .inr ⟨hlt, z, fun v H' y => ?_⟩
    obtain ⟨e, ev⟩ := y
    subst e ev
    exact (hs i ys σc _ hlt p).2
  · have e : i = n := by omega
    subst e
    exact .inl ⟨Nat.le_refl _, hd ys σc H p⟩
end
theorem same_upd {H : Hp} {a : Addr} {o : HO} (h : H a = none) : Same H (upd H a o) := fun b u e => by rw [upd_ne (ne_of_none e h)]; exact e
theorem at_mod {α : Type} {xs : List α} (h : 0 < xs.length) (i : Int) : ∃ v, v ∈ xs ∧ atI xs (i % (xs.length : Int)) = some v := by
  have h0 : 0 ≤ i % (xs.length : Int) := Int.emod_nonneg _ (by omega)
  have h1 : i % (xs.length : Int) < xs.length := Int.emod_lt_of_pos _ (by omega)
  obtain ⟨j, hj⟩ := Int.eq_ofNat_of_zero_le h0
  have hl : j < xs.length := by omega
  refine ⟨xs[j], List.getElem_mem hl, ?_⟩
  rw [hj]
  exact atI_nat (List.getElem?_eq_getElem hl)
theorem at_in {α : Type} {xs : List α} {i : Int} (h0 : 0 ≤ i) (h1 : i < xs.length) : ∃ v, v ∈ xs ∧ atI xs i = some v := by
  obtain ⟨j, hj⟩ := Int.eq_ofNat_of_zero_le h0
  have hl : j < xs.length := by omega
  refine ⟨xs[j], List.getElem_mem hl, ?_⟩
  rw [hj]
  exact atI_nat (List.getElem?_eq_getElem hl)

/-! argument lists, item by item, whatever stands behind -/
section
variable {X : Cx} {es : List Expr} {te : TE} {t : TA}
theorem pa_k {c : Const} {j : Nat} {p : Pos} (h : PE X (.Constant c j p) te) (hr : PA X es t) : PA X (.Constant c j p :: es) (tCons te t) := pa_cons h hr rfl
theorem pa_n {x : Str} {p : Pos} (h : PE X (.Name x p) te) (hr : PA X es t) : PA X (.Name x p :: es) (tCons te t) := pa_cons h hr rfl
theorem pa_t {xs : List Expr} {j : Nat} {p : Pos} (h : PE X (.Tuple xs j p) te) (hr : PA X es t) : PA X (.Tuple xs j p :: es) (tCons te t) := pa_cons h hr rfl
theorem pa_c {f : Expr} {xs : List Expr} {ks : List Keyword} {p : Pos} (h : PE X (.Call f xs ks p) te) (hr : PA X es t) : PA X (.Call f xs ks p :: es) (tCons te t) := pa_cons h hr rfl
end
/-- the value of a written constant -/
def constV : Expr → Option V
  | .Constant (.int i) _ _ => some (.int i)
  | .Constant (.str x) _ _ => some (.str x)
  | .Constant (.bool b) _ _ => some (.bl b)
  | .Constant .none _ _ => some .non
  | _ => none
theorem pa_consts {X : Cx} : ∀ {es : List Expr} {vs : List V}, es.map constV = vs.map some → PA X es (fun _ H Q => Q vs H)
  | [], [], _ => pa_nil
  | [], v :: vs, h => by cases h
  | e :: es, [], h => by cases h
  | e :: es, v :: vs, h => by
    rw [List.map_cons, List.map_cons] at h
    injection h with h1 h2
    have ih := pa_consts (X := X) h2
    cases e with
    | Constant c j p =>
      cases c with
      | int i => cases h1; exact pa_k pe_int ih
      | str x => cases h1; exact pa_k pe_str ih
      | bool b => cases h1; exact pa_k pe_bl ih
      | none => cases h1; exact pa_k pe_non ih
      | _ => cases h1
    | _ => cases h1
theorem nd1 (x : Str) : [x].Nodup := by simp
end L2

set_option Elab.async false
set_option linter.all false
set_option maxRecDepth 100000
set_option maxHeartbeats 4000000
namespace L2
open PySem PySem.Spec PyProof.Rows
section
variable {K : PySem.W.Frag} {a : Addr} {xs : List V} {σ0 : St} {H : Hp} {g : TG} {tt : TT} {te : TE} {Q : List V → Hp → Prop}
/-- a comprehension over a tuple -/
theorem comp_tup (Pv : Nat → List V → St → Hp → Prop) (h0 : Pv 0 [] σ0 H) (hl : ∀ i ys σc H, Pv i ys σc H → SqT K H a xs)
    (hs : ∀ i x ys σc H, xs[i]? = some x → i < xs.length → Pv i ys σc H → ys.length < sizeLine ∧ g x σc H fun σ2 H2 => tt σ2 H2 fun b H3 =>
      if b = true then te σ2 H3 fun v H4 => Nx xs.length i (Pv (i + 1) (ys ++ [v]) σ2 H4) else Nx xs.length i (Pv (i + 1) ys σ2 H3))
    (hd : ∀ ys σc H, Pv xs.length ys σc H → Q ys H) :
    ∃ W : Nat → Nat → List V → St → Hp → Prop, (∃ m, W 0 m [] σ0 H) ∧ ∀ i m ys σc H, W i m ys σc H →
      ((Itt K a).stop i H ∧ Q ys H) ∨ ((Itt K a).go i H ∧ ys.length < sizeLine ∧ ∀ v H', (Itt K a).yld i H v H' → g v σc H' fun σ2 H2 => tt σ2 H2 fun b H3 =>
        if b = true then te σ2 H3 fun v H4 => ∃ m', m' < m ∧ W (i + 1) m' (ys ++ [v]) σ2 H4 else ∃ m', m' < m ∧ W (i + 1) m' ys σ2 H3) := by
  refine ⟨fun i m ys σc H => m = xs.length - i ∧ i ≤ xs.length ∧ Pv i ys σc H, ⟨_, rfl, Nat.zero_le _, h0⟩, ?_⟩
  rintro i m ys σc H ⟨rfl, hi, p⟩
  have q := hl i ys σc H p
  by_cases hlt : i < xs.length
  · have hx : xs[i]? = some xs[i] := List.getElem?_eq_getElem hlt
    obtain ⟨z, _⟩ := hs i _ ys σc H hx hlt p
    refine .inr ⟨⟨xs, xs[i], q, hx⟩, z, fun v H' y => ?_⟩
    obtain ⟨e, y⟩ := y
    subst e
    exact (hs i v ys σc _ (y xs q) hlt p).2
  · have e : i = xs.length := by omega
    subst e
    exact .inl ⟨⟨xs, q, Nat.le_refl _⟩, hd ys σc H p⟩
/-- a comprehension over a list that the block leaves as it is -/
theorem comp_list (Pv : Nat → List V → St → Hp → Prop) (h0 : Pv 0 [] σ0 H) (hl : ∀ i ys σc H, Pv i ys σc H → SqL K H a xs)
    (hs : ∀ i x ys σc H, xs[i]? = some x → i < xs.length → Pv i ys σc H → ys.length < sizeLine ∧ g x σc H fun σ2 H2 => tt σ2 H2 fun b H3 =>
      if b = true then te σ2 H3 fun v H4 => Nx xs.length i (Pv (i + 1) (ys ++ [v]) σ2 H4) else Nx xs.length i (Pv (i + 1) ys σ2 H3))
    (hd : ∀ ys σc H, Pv xs.length ys σc H → Q ys H) :
    ∃ W : Nat → Nat → List V → St → Hp → Prop, (∃ m, W 0 m [] σ0 H) ∧ ∀ i m ys σc H, W i m ys σc H →
      ((Itl K a).stop i H ∧ Q ys H) ∨ ((Itl K a).go i H ∧ ys.length < sizeLine ∧ ∀ v H', (Itl K a).yld i H v H' → g v σc H' fun σ2 H2 => tt σ2 H2 fun b H3 =>
        if b = true then te σ2 H3 fun v H4 => ∃ m', m' < m ∧ W (i + 1) m' (ys ++ [v]) σ2 H4 else ∃ m', m' < m ∧ W (i + 1) m' ys σ2 H3) := by
  refine ⟨fun i m ys σc H => m = xs.length - i ∧ i ≤ xs.length ∧ Pv i ys σc H, ⟨_, rfl, Nat.zero_le _, h0⟩, ?_⟩
  rintro i m ys σc H ⟨rfl, hi, p⟩
  have q := hl i ys σc H p
  by_cases hlt : i < xs.length
  · have hx : xs[i]? = some xs[i] := List.getElem?_eq_getElem hlt
    obtain ⟨z, _⟩ := hs i _ ys σc H hx hlt p
    refine .inr ⟨⟨xs, xs[i], q, hx⟩, z, fun v H' y => ?_⟩
    obtain ⟨e, y⟩ := y
    subst e
    exact (hs i v ys σc _ (y xs q) hlt p).2
  · have e : i = xs.length := by omega
    subst e
    exact .inl ⟨⟨xs, q, Nat.le_refl _⟩, hd ys σc H p⟩
end
/-- isinstance, the written part named (within a block: K is the same for all blocks) -/
theorem call_isinstK {X : Cx} {K : PySem.W.Frag} (hK : X.K = K) : CallR X (.builtin "isinstance") (fun xs H Q => ∃ x T ty b, xs = [x, .ty T] ∧ TyOf K H x ty ∧ PySem.W.kitOne K ty (.type T) = some b ∧ Q (.bl b) H) := by
  subst hK
  exact call_isinst
/-- xs[::-1] of a list (the step's value is -1) -/
theorem pe_rev {X : Cx} {e st : Expr} {te ts : TE} {pos p2 : Pos} (he : PE X e te) (hst : PE X st ts) : PE X (.Subscript e (.Slice none none (some st) p2) pos)
    (fun σ H Q => te σ H fun x H1 => ts σ H1 fun y H2 => y = .int (-1) ∧ ∃ a xs, x = .ref a ∧ SqL X.K H2 a xs ∧ ∀ p, H2 p = none → Q (.ref p) (upd H2 p (.lst xs.reverse))) := by
  intro pins s σ H Q I h
  refine Subscript_ (thn (he pins s σ H _ I h) fun v s1 ⟨x, H1, I1, r1, q1⟩ => ?_)
  refine wpAny_Slice ?_
  rw [evalPart_none]
  refine wpAny_pure (wpAny_pure ?_)
  rw [evalPart_some]
  refine thn (hst pins s1 σ H1 _ I1 q1) fun vs s3 ⟨y, H3, I3, ry, ey, a, xs, ex, hx, q⟩ => ?_
  subst ey ex
  cases r1
  obtain ⟨t, rfl⟩ := ry
  have I4 : Inv X pins σ H3 { s3 with heap := s3.heap.push { cls := .type "slice", data := .fields #[.none, .none, .int (-1) t] } } := I3.kept (t' := s3.toks) fun b ob q => Heap.get?_push_of_some _ q
  obtain ⟨its, r, ht, hz⟩ := I4.list hx
  have hlen := r.length
  refine tail_any (ops := [.ref a, .ref s3.heap.objs.size]) ht.isList.typeIs slot_list_getitem.lookup (wpAny_getItem_list_slice ht.isList (Heap.IsSliceOf.new ..) .none .none (.int (-1) t) (by simp) ?_ (by rw [List.size_toArray] <;> omega)) (by with_unfolding_all rfl)
  rw [PySem.W.krv_pick]
  refine ⟨.ref _, _, I4.laid (t' := s3.toks) (o := .lst xs.reverse) (fun b ob q => Heap.get?_push_of_some _ q) (Nat.le_refl _) ?_, rfl, q _ (I4.hok.fresh (Nat.le_refl _))⟩
  exact ⟨by rw [List.length_reverse]; exact hz, its.reverse, 0, r.reverse, by
    rw [show (its.toArray.toList.reverse).toArray = its.reverse.toArray by simp]
    exact Heap.get?_push_size _ rfl⟩
/-! ### trees of tuples: what a node has of its own, then its parts -/
theorem take_nextR {α : Type} {l : List α} {i : Nat} {c : α} (p : α → Bool) (h : l[i]? = some c) : (l.take (i + 1)).filter p = (l.take i).filter p ++ (if p c = true then [c] else []) := by
  rw [List.take_add_one, h, List.filter_append]
  cases hp : p c <;> simp [hp]
end L2

set_option Elab.async false
set_option linter.all false
set_option maxRecDepth 100000
set_option maxHeartbeats 4000000
namespace L2
open PySem PySem.Spec PyProof.Rows
/-! ### tuples kept -/
/-! ### the rules over a fragment named (within a block) -/
section
variable {X : Cx} {K : PySem.W.Frag}
theorem ix_tupK (hK : X.K = K) : IxR X (rIxT K) := by subst hK; exact ix_tup
theorem ix_listK (hK : X.K = K) : IxR X (rIxL K) := by subst hK; exact ix_list
end
/-! ### sorted of texts -/
section
variable {X : Cx}
end
/-! ### tuples of tuples of plain values, and == of them -/
inductive PV where
  | at (v : V)
  | tup (xs : List PV)
mutual
def eqPV : PV → PV → Bool
  | .at v, .at w => eqV v w
  | .tup xs, .tup ys => eqPVs xs ys
  | .at _, .tup _ => false
  | .tup _, .at _ => false
def eqPVs : List PV → List PV → Bool
  | [], [] => true
  | x :: xs, y :: ys => eqPV x y && eqPVs xs ys
  | [], _ :: _ => false
  | _ :: _, [] => false
end
mutual
/-- the value is that thing, at most n tuples within one another -/
inductive IsPV (K : PySem.W.Frag) (H : Hp) : Nat → V → PV → Prop where
  | at {n : Nat} {v : V} (f : flatV v = true) : IsPV K H n v (.at v)
  | tup {n : Nat} {a : Addr} {vs : List V} {ts : List PV} (h : SqT K H a vs) (r : IsPVs K H n vs ts) : IsPV K H (n + 1) (.ref a) (.tup ts)
inductive IsPVs (K : PySem.W.Frag) (H : Hp) : Nat → List V → List PV → Prop where
  | nil {n : Nat} : IsPVs K H n [] []
  | cons {n : Nat} {v : V} {vs : List V} {t : PV} {ts : List PV} (h : IsPV K H n v t) (r : IsPVs K H n vs ts) : IsPVs K H n (v :: vs) (t :: ts)
end
theorem IsPVs.length {K : PySem.W.Frag} {H : Hp} {n : Nat} : ∀ {vs : List V} {ts : List PV}, IsPVs K H n vs ts → vs.length = ts.length
  | _, _, .nil => rfl
  | _, _, .cons _ r => congrArg (· + 1) r.length
theorem IsPVs.get {K : PySem.W.Frag} {H : Hp} {n : Nat} : ∀ {vs : List V} {ts : List PV} {j : Nat} {v : V}, IsPVs K H n vs ts → vs[j]? = some v → ∃ t, ts[j]? = some t ∧ IsPV K H n v t
  | _, _, _, _, .nil, e => by simp at e
  | _, _, 0, _, .cons h _, e => by simp at e; subst e; exact ⟨_, rfl, h⟩
  | _, _, j + 1, _, .cons _ r, e => by
    rw [List.getElem?_cons_succ] at e
    obtain ⟨t, e2, h⟩ := r.get e
    exact ⟨t, by rw [List.getElem?_cons_succ]; exact e2, h⟩
theorem eqV_refl : ∀ {v : V}, flatV v = true → eqV v v = true := by
  intro v h
  cases v with
  | non => rfl
  | bl b => exact beq_self_eq_true b
  | int i => exact beq_self_eq_true i
  | str x => exact beq_self_eq_true x
  | _ => cases h
theorem eqPVs_all : ∀ (ts us : List PV), ((List.range (min ts.length us.length)).all (fun j => eqPV (ts.getD j (.at .non)) (us.getD j (.at .non))) && ts.length == us.length) = eqPVs ts us
  | [], [] => by unfold eqPVs; rfl
  | [], _ :: _ => by unfold eqPVs; simp
  | _ :: _, [] => by unfold eqPVs; simp
  | t :: ts, u :: us => by
    have ih := eqPVs_all ts us
    unfold eqPVs
    rw [← ih]
    simp only [List.length_cons, Nat.add_min_add_right, List.range_succ_eq_map, List.all_cons, List.all_map, Bool.and_assoc]
    simp [Function.comp_def]
section
variable {X : Cx} {pins : List (Addr × Obj)} {σ : St} {H : Hp} {s : Shared}
theorem pvs_same_of {n : Nat} (ih : ∀ {v : V} {t u : PV}, IsPV X.K H n v t → IsPV X.K H n v u → eqPV t u = true) : ∀ (vs : List V) {ts us : List PV}, IsPVs X.K H n vs ts → IsPVs X.K H n vs us → eqPVs ts us = true := by
  intro vs
  induction vs with
  | nil =>
    intro ts us h h'
    cases h
    cases h'
    unfold eqPVs
    rfl
  | cons v vs ihv =>
    intro ts us h h'
    cases h with
    | cons a b =>
      cases h' with
      | cons a' b' =>
        unfold eqPVs
        rw [ih a a', ihv b b']
        rfl
theorem pv_same (I : Inv X pins σ H s) : ∀ (n : Nat) {v : V} {t u : PV}, IsPV X.K H n v t → IsPV X.K H n v u → eqPV t u = true := by
  intro n
  induction n with
  | zero =>
    intro v t u h h'
    cases h with
    | «at» f =>
      cases h' with
      | «at» g => unfold eqPV; exact eqV_refl f
  | succ n ih =>
    intro v t u h h'
    cases h with
    | «at» f =>
      cases h' with
      | «at» g => unfold eqPV; exact eqV_refl f
      | tup a b => exact absurd (show false = true from f) Bool.false_ne_true
    | tup a r =>
      cases h' with
      | «at» g => exact absurd (show false = true from g) Bool.false_ne_true
      | tup a' r' =>
        have e := I.tuple_inj a a'
        subst e
        unfold eqPV
        exact pvs_same_of ih _ r r'
theorem pvs_same (I : Inv X pins σ H s) {n : Nat} {vs : List V} {ts us : List PV} (h : IsPVs X.K H n vs ts) (h' : IsPVs X.K H n vs us) : eqPVs ts us = true := pvs_same_of (pv_same I n) _ h h'
/-- what two tuples' items answer -/
theorem tupEq (I : Inv X pins σ H s) {n : Nat} {A : Around} {vs ws : List V} {ts us : List PV} {its its2 : List Value} (r : IsPVs X.K H n vs ts) (r' : IsPVs X.K H n ws us) (v1 : Vals vs its) (v2 : Vals ws its2)
    (ih : ∀ {x y : V} {t u : PV} {v w : Value}, IsPV X.K H n x t → IsPV X.K H n y u → RelV x v → RelV y w → SeqAt.EqAt A s v w (eqPV t u)) :
    (∀ j (h1 : j < its.toArray.size) (h2 : j < its2.toArray.size), SeqAt.EqAt A s its.toArray[j] its2.toArray[j] ((fun j => eqPV (ts.getD j (.at .non)) (us.getD j (.at .non))) j)) ∧
    ((List.range (min its.toArray.size its2.toArray.size)).all (fun j => eqPV (ts.getD j (.at .non)) (us.getD j (.at .non))) && its.toArray.size == its2.toArray.size) = eqPVs ts us := by
  have l1 := v1.length
  have l2 := v2.length
  have l3 := r.length
  have l4 := r'.length
  constructor
  · intro j h1 h2
    simp only [List.size_toArray] at h1 h2
    have g1 : vs[j]? = some vs[j] := List.getElem?_eq_getElem (by omega)
    have g2 : ws[j]? = some ws[j] := List.getElem?_eq_getElem (by omega)
    obtain ⟨u1, e1, ru1⟩ := v1.get g1
    obtain ⟨u2, e2, ru2⟩ := v2.get g2
    obtain ⟨t1, f1, p1⟩ := r.get g1
    obtain ⟨t2, f2, p2⟩ := r'.get g2
    have k1 : its.toArray[j] = u1 := by
      have : its[j]? = some its[j] := List.getElem?_eq_getElem h1
      rw [e1] at this
      simpa using (Option.some.inj this).symm
    have k2 : its2.toArray[j] = u2 := by
      have : its2[j]? = some its2[j] := List.getElem?_eq_getElem h2
      rw [e2] at this
      simpa using (Option.some.inj this).symm
    rw [k1, k2]
    show SeqAt.EqAt A s u1 u2 (eqPV (ts.getD j (.at .non)) (us.getD j (.at .non)))
    rw [show ts.getD j (.at .non) = t1 by simp [List.getD, f1], show us.getD j (.at .non) = t2 by simp [List.getD, f2]]
    exact ih p1 p2 ru1 ru2
  · rw [List.size_toArray, List.size_toArray, ← l1, ← l2, l3, l4]
    exact eqPVs_all ts us
theorem eqAt_tup (I : Inv X pins σ H s) {n : Nat} {A : Around} (hu : A.units + (n + 1) < cLine)
    (ih : ∀ (A : Around), A.units + n < cLine → ∀ {x y : V} {t u : PV} {v w : Value}, IsPV X.K H n x t → IsPV X.K H n y u → RelV x v → RelV y w → SeqAt.EqAt A s v w (eqPV t u))
    {a b : Addr} {vs ws : List V} {ts us : List PV} {its its2 : List Value} (h : SqT X.K H a vs) (r : IsPVs X.K H n vs ts) (h' : SqT X.K H b ws) (r' : IsPVs X.K H n ws us)
    (v1 : Vals vs its) (pl : IsTup s.heap a its.toArray) (v2 : Vals ws its2) (pl2 : IsTup s.heap b its2.toArray) : SeqAt.EqAt A s (.ref a) (.ref b) (eqPVs ts us) := by
  by_cases hab : a = b
  · subst hab
    have e := I.tuple_inj h h'
    subst e
    rw [pvs_same I r r']
    exact SeqAt.EqAt.same _
  · obtain ⟨e1, e2⟩ := tupEq (A := A.in1) I r r' v1 v2 (fun hx hy rx ry => ih A.in1 (by show A.units + 1 + n < cLine; omega) hx hy rx ry)
    rw [← e2]
    exact SeqAt.EqAt.of_refs hab (SeqAt.RcAt.tuples pl pl2 (by omega) e1)
theorem eqAt_PV (I : Inv X pins σ H s) : ∀ (n : Nat) (A : Around), A.units + n < cLine → ∀ {x y : V} {t u : PV} {v w : Value}, IsPV X.K H n x t → IsPV X.K H n y u → RelV x v → RelV y w → SeqAt.EqAt A s v w (eqPV t u) := by
  intro n
  induction n with
  | zero =>
    intro A hu x y t u v w hx hy rx ry
    cases hx with
    | «at» f =>
      cases hy with
      | «at» g => unfold eqPV; exact eqAt_V rx ry f g
  | succ n ih =>
    intro A hu x y t u v w hx hy rx ry
    have hu0 : A.units < cLine := by omega
    cases hx with
    | «at» f =>
      cases hy with
      | «at» g => unfold eqPV; exact eqAt_V rx ry f g
      | tup h r =>
        cases ry
        obtain ⟨its, _, pl, _⟩ := I.tuple h
        unfold eqPV
        cases x with
        | non => cases rx; exact SeqAt.EqAt.none_tuple pl hu0
        | bl b => cases rx; exact SeqAt.EqAt.bool_tuple b pl hu0
        | int i => obtain ⟨k, rfl⟩ := rx; exact SeqAt.EqAt.int_tuple i k pl hu0
        | str z => obtain ⟨k, rfl⟩ := rx; exact SeqAt.EqAt.str_tuple z k pl hu0
        | _ => cases f
    | tup h r =>
      cases rx
      obtain ⟨its, v1, pl, _⟩ := I.tuple h
      cases hy with
      | «at» g =>
        unfold eqPV
        cases y with
        | non => cases ry; exact SeqAt.EqAt.tuple_none pl hu0
        | bl b => cases ry; exact SeqAt.EqAt.tuple_bool b pl hu0
        | int i => obtain ⟨k, rfl⟩ := ry; exact SeqAt.EqAt.tuple_int i k pl hu0
        | str z => obtain ⟨k, rfl⟩ := ry; exact SeqAt.EqAt.tuple_str z k pl hu0
        | _ => cases g
      | tup h' r' =>
        cases ry
        obtain ⟨its2, v2, pl2, _⟩ := I.tuple h'
        unfold eqPV
        exact eqAt_tup I hu ih h r h' r' v1 pl v2 pl2
end
section
variable {X : Cx}
/-- == of two tuples of plain things -/
def rEqT (K : PySem.W.Frag) (n : Nat) (neg : Bool) : R2 := fun x y H Q => ∃ a b vs ws ts us, x = .ref a ∧ y = .ref b ∧ SqT K H a vs ∧ IsPVs K H n vs ts ∧ SqT K H b ws ∧ IsPVs K H n ws us ∧ Q (.bl (if neg then !eqPVs ts us else eqPVs ts us)) H
theorem op_eq_tup (n : Nat) (hu : X.A.units + (n + 1) < cLine) : OpR X (compareOp .Eq) (rEqT X.K n false) := by
  intro pins s σ H x y v u Q I rx ry h
  obtain ⟨a, b, vs, ws, ts, us, rfl, rfl, ha, r, hb, r', q⟩ := h
  cases rx
  cases ry
  obtain ⟨its, v1, pl, _⟩ := I.tuple ha
  obtain ⟨its2, v2, pl2, _⟩ := I.tuple hb
  obtain ⟨e1, e2⟩ := tupEq (A := X.A.in1) I r r' v1 v2 (fun hx hy rx ry => eqAt_PV I n X.A.in1 (by show X.A.units + 1 + n < cLine; omega) hx hy rx ry)
  refine SeqAt.eq_tupleAt pl pl2 (by omega) e1 (fin_bl I q ?_)
  exact e2.symm
theorem op_ne_tup (n : Nat) (hu : X.A.units + (n + 1) < cLine) : OpR X (compareOp .NotEq) (rEqT X.K n true) := by
  intro pins s σ H x y v u Q I rx ry h
  obtain ⟨a, b, vs, ws, ts, us, rfl, rfl, ha, r, hb, r', q⟩ := h
  cases rx
  cases ry
  obtain ⟨its, v1, pl, _⟩ := I.tuple ha
  obtain ⟨its2, v2, pl2, _⟩ := I.tuple hb
  obtain ⟨e1, e2⟩ := tupEq (A := X.A.in1) I r r' v1 v2 (fun hx hy rx ry => eqAt_PV I n X.A.in1 (by show X.A.units + 1 + n < cLine; omega) hx hy rx ry)
  refine SeqAt.RcNeAt.tuples pl pl2 (by omega) e1 X.prog X.w _ _ (fin_bl I q ?_)
  show (!eqPVs ts us) = _
  rw [e2]
end
end L2
namespace L2
open PySem PySem.Spec PyProof.Rows PySem.Builtin PySem.Builtin.Str
/-! ### texts cut -/
theorem cut_all {n : Nat} {j : Int} (h : (n : Int) ≤ j) : (strSliceIndices none (some j) 1 n).length = n := by
  unfold strSliceIndices sliceRange
  simp only [show (1 : Int) > 0 by decide, if_true, List.length_map, List.length_range]
  split <;> (try split) <;> (try split) <;> (try simp only [Int.ediv_one]) <;> omega
/-- x[:j] has a sign where x has one and j is 1 or more -/
theorem cut_pos {x : Str} {j : Int} (hx : 0 < x.length) (hj : 1 ≤ j) : 0 < (Txt.slice x none (some j)).length := by
  have hl : x.cps.toList.length = x.length := by simp [Str.length]
  by_cases h : j ≤ x.length
  · have e := beq_iff_eq.mp (slice_closes_to (x := x) (j := j) ⟨by omega, by rw [hl]; exact h⟩)
    rw [e]
    show 0 < (List.toArray _).size
    rw [List.size_toArray, List.length_take, List.length_drop, hl]
    omega
  · have e : Txt.slice x none (some j) = x := by
      unfold Txt.slice
      rw [cut_all (show ((x.length : Nat) : Int) ≤ j by omega)]
      simp
    rw [e]; exact hx
/-- x[:j] has at most j signs -/
theorem cut_le {x : Str} {j : Int} (hj : 0 ≤ j) : ((Txt.slice x none (some j)).length : Int) ≤ j := by
  have hl : x.cps.toList.length = x.length := by simp [Str.length]
  by_cases h : j ≤ x.length
  · have e := beq_iff_eq.mp (slice_closes_to (x := x) (j := j) ⟨hj, by rw [hl]; exact h⟩)
    rw [e]
    show (((List.toArray _).size : Nat) : Int) ≤ j
    rw [List.size_toArray, List.length_take, List.length_drop, hl]
    omega
  · have := Txt.slice_le x none (some j)
    omega
/-- x[i:] has what is left -/
theorem cut_from {x : Str} {i : Int} (h0 : 0 ≤ i) (h : i ≤ x.length) : ((Txt.slice x (some i) none).length : Int) = x.length - i := by
  have hl : x.cps.toList.length = x.length := by simp [Str.length]
  rw [slice_from_eq h0 h rfl]
  show (((List.toArray _).size : Nat) : Int) = _
  rw [List.size_toArray, List.length_take, List.length_drop, hl]
  omega
end L2

set_option Elab.async false
set_option linter.all false
set_option maxRecDepth 100000
set_option maxHeartbeats 4000000
namespace L2
open PySem PySem.Spec PyProof.Rows
/-- a display of constants as the values that it lists -/
def constsOf : Expr → Option (List V)
  | .List es _ => es.mapM constV
  | _ => none
theorem mapM_map : ∀ {es : List Expr} {vs : List V}, es.mapM constV = some vs → es.map constV = vs.map some := by
  intro es
  induction es with
  | nil =>
    intro vs h
    rw [List.mapM_nil] at h
    have : vs = [] := (Option.some.inj h).symm
    subst this
    rfl
  | cons e es ih =>
    intro vs h
    rw [List.mapM_cons] at h
    cases he : constV e with
    | none => rw [he] at h; cases h
    | some v =>
      cases hr : es.mapM constV with
      | none => rw [he, hr] at h; cases h
      | some r =>
        rw [he, hr] at h
        have : vs = v :: r := (Option.some.inj h).symm
        subst this
        rw [List.map_cons, List.map_cons, he, ih hr]
/-- [c, c, ..] of constants, whatever its length -/
theorem pe_consts {X : Cx} {e : Expr} {vs : List V} (h : constsOf e = some vs) : PE X e (tLst (fun _ H Q => Q vs H)) := by
  cases e with
  | List es p => exact pe_lst (pa_consts (mapM_map h))
  | _ => cases h
/-- x = [c, c, ..][i], the display of constants -/
theorem ps_setIxC {X : Cx} {st : Stmt} {i : Nat} {x : Str} {vs : List V} {idx : Expr} {tb : TE} (hN : X.N.Nodup) (hi : X.N[i]? = some x) (hx : Loc X.env.scope x)
    (hst : ∃ p' es p1 p2 p3, st = .Assign [.Name x p'] (.Subscript (.List es p1) idx p2) p3 ∧ es.mapM constV = some vs) (hb : PE X idx tb) (hs : PlainIx idx)
    (hf : X.fn x = true ∨ X.env.scope.names.lookup x = some .local) : PS X st (tAsg (tOp (rIxL X.K) (tLst (fun _ H Q => Q vs H)) tb) (gName i)) := by
  obtain ⟨p', es, p1, p2, p3, e, h⟩ := hst
  subst e
  exact ps_set hN hi hx (pe_ix ix_list (pe_consts (e := .List es p1) h) hb hs) rfl hf
end L2

set_option Elab.async false
set_option linter.all false
set_option maxRecDepth 100000
set_option maxHeartbeats 4000000
namespace L2
open PySem PySem.Spec PyProof.Rows
/-! ### a call of a function that a name holds (a parameter, a thing out of a table) -/
section
variable {X : Cx} {CX : CXT} {k : Nat} {E : XK} {x : Str} {p pos : Pos} {e : Expr} {es : List Expr} {tf : TE} {t : TA} {Pf : Addr → Prop} {sp : Addr → Sp}
end
/-! ### any thing: flat values, tuples and lists of things -/
inductive Th where
  | at (v : V)
  | tup (xs : List Th)
  | lst (xs : List Th)
/-- a flat value, a text of at most a thousand signs -/
def smallV : V → Bool
  | .str x => decide (x.length ≤ 1000)
  | v => flatV v
theorem smallV.flat {v : V} (h : smallV v = true) : flatV v = true := by
  cases v with
  | str x => rfl
  | _ => exact h
mutual
inductive IsTh (H : Hp) : V → Th → Prop where
  | at {v : V} (f : smallV v = true) : IsTh H v (.at v)
  | tup {a : Addr} {vs : List V} {ts : List Th} (h : H a = some (.tup vs)) (r : IsThs H vs ts) : IsTh H (.ref a) (.tup ts)
  | lst {a : Addr} {vs : List V} {ts : List Th} (h : H a = some (.lst vs)) (r : IsThs H vs ts) : IsTh H (.ref a) (.lst ts)
inductive IsThs (H : Hp) : List V → List Th → Prop where
  | nil : IsThs H [] []
  | cons {v : V} {vs : List V} {t : Th} {ts : List Th} (h : IsTh H v t) (r : IsThs H vs ts) : IsThs H (v :: vs) (t :: ts)
end
/-- all but dicts stays -/
def Kp (H H' : Hp) : Prop := ∀ a o, H a = some o → (∀ kvs, o ≠ .dK kvs) → H' a = some o
theorem Kp.refl (H : Hp) : Kp H H := fun _ _ e _ => e
theorem Kp.trans {H H1 H2 : Hp} (a : Kp H H1) (b : Kp H1 H2) : Kp H H2 := fun c o e n => b c o (a c o e n) n
theorem Kp.of {H H1 : Hp} (a : Same H H1) : Kp H H1 := fun c o e _ => a c o e
mutual
theorem IsTh.kp {H H' : Hp} (k : Kp H H') : ∀ {v : V} {t : Th}, IsTh H v t → IsTh H' v t
  | _, _, .at f => .at f
  | _, _, .tup h r => .tup (k _ _ h (fun _ z => by cases z)) (IsThs.kp k r)
  | _, _, .lst h r => .lst (k _ _ h (fun _ z => by cases z)) (IsThs.kp k r)
theorem IsThs.kp {H H' : Hp} (k : Kp H H') : ∀ {vs : List V} {ts : List Th}, IsThs H vs ts → IsThs H' vs ts
  | _, _, .nil => .nil
  | _, _, .cons h r => .cons (IsTh.kp k h) (IsThs.kp k r)
end
theorem IsThs.len {H : Hp} : ∀ (vs : List V) {ts : List Th}, IsThs H vs ts → vs.length = ts.length := by
  intro vs
  induction vs with
  | nil => intro ts h; cases h; rfl
  | cons v vs ih =>
    intro ts h
    cases h with
    | cons a b => rw [List.length_cons, List.length_cons, ih b]
theorem IsThs.app {H : Hp} : ∀ (vs : List V) {ws : List V} {ts us : List Th}, IsThs H vs ts → IsThs H ws us → IsThs H (vs ++ ws) (ts ++ us) := by
  intro vs
  induction vs with
  | nil => intro ws ts us h g; cases h; exact g
  | cons v vs ih =>
    intro ws ts us h g
    cases h with
    | cons a b => exact .cons a (ih b g)
end L2

set_option Elab.async false
set_option linter.all false
set_option maxRecDepth 100000
set_option maxHeartbeats 4000000
namespace L2
open PySem PySem.Spec PyProof.Rows
/-! ### a dict of the module, its keys texts -/
section
variable {X : Cx} {o e f : Expr} {apos cpos : Pos} {td ty tx : TE}
end
end L2

set_option Elab.async false
set_option linter.all false
set_option maxRecDepth 100000
set_option maxHeartbeats 4000000
namespace L2
open PySem PySem.Spec PyProof.Rows
section
variable {X : Cx}
/-- while by a measure that is told beside the state -/
theorem while_m {c : TT} {tb : TS} {D : Ends} {σ : St} {H : Hp} (Pv : Nat → St → Hp → Prop) (m0 : Nat) (h0 : Pv m0 σ H)
    (hs : ∀ m σ H, Pv m σ H → c σ H fun b H1 => if b = true then tb { D with nx := fun σ' H' => ∃ m', m' < m ∧ Pv m' σ' H', ct := fun σ' H' => ∃ m', m' < m ∧ Pv m' σ' H', bk := D.nx } σ H1 else D.nx σ H1)
    (mono : ∀ σ H Q Q', (∀ b H1, Q b H1 → Q' b H1) → c σ H Q → c σ H Q') : tWhile c tb D σ H := by
  refine ⟨Pv, ⟨m0, h0⟩, ?_⟩
  intro m σ H p
  refine mono σ H _ _ (fun b H1 q => ?_) (hs m σ H p)
  cases b with
  | true => exact ⟨_, fun σ' H' z => z, q⟩
  | false => exact q
end
end L2

set_option Elab.async false
set_option linter.all false
set_option maxRecDepth 100000
set_option maxHeartbeats 4000000
namespace L2
open PySem PySem.Spec PyProof.Rows PySem.Builtin PySem.Builtin.Str
end L2

set_option Elab.async false
set_option linter.all false
set_option maxRecDepth 100000
set_option maxHeartbeats 4000000
namespace L2
open PySem PySem.Spec PyProof.Rows
section
variable {X : Cx}
end
end L2

set_option Elab.async false
set_option linter.all false
set_option maxRecDepth 100000
set_option maxHeartbeats 4000000
namespace HT
open PySem PySem.Spec PyProof.Rows
section
variable {prog : Program} {w : World} {A : Around} {E : Value → Shared → Prop} {s : Shared}
theorem getItem_tuple_all {t sl : Addr} {items : Array Value} {vl vu : Value} {lo hi : Option Int} {Q : Value → Shared → Prop} (ht : IsTup s.heap t items) (hs : s.heap.IsSliceOf sl vl vu .none) (pl : IsPart vl lo) (pu : IsPart vu hi)
    (hw : sIx items.size 0 lo = 0 ∧ sIx items.size items.size hi = items.size) (h : Q (.ref t) s) : wpAny (model prog w) A (getItem (.ref t) (.ref sl)) Q E s := by
  obtain ⟨os, hos, hcs, hds⟩ := id hs
  have hTs : s.TypeIs (.ref sl) "slice" := ⟨os, hos, hcs⟩
  unfold getItem
  try with_reducible refine wpAny_holding ?_
  first | refine wpAny_bind (wpAny_pure ?_) | skip
  refine wpAny_bind (wpAny_sequenceKey ht.typeIs (by decide) ?_)
  refine wpAny_bind (wpAny_callSpecial?_slot (name := Str.ofString "__getitem__") ht.typeIs PyProof.Rows.slot_tuple_getitem
    (wpAny_call_entry PyProof.Rows.slot_tuple_getitem ht.typeIs entry_tuple_getitem ?_ (args_tuple_getitem _ _)))
  show wpAny _ _ (Builtin.Tuple.tupleItemsOf (.ref t) >>= _) _ _ s
  refine wpAny_bind (tupleItemsOf_ ht ?_)
  refine wpAny_bind (wpAny_typeOf hTs ?_)
  rw [if_pos (by decide)]
  refine wpAny_bind (sliceApplied_gen hs pl pu ?_)
  have hno : ((((sIx items.size 0 lo : Nat) : Int) == 0 && (1 : Int) == 1 && (sIx items.size items.size hi - sIx items.size 0 lo) == items.size) = true) := by
    rw [hw.1, hw.2]; simp
  show wpAny _ _ (if (((sIx items.size 0 lo : Nat) : Int) == 0 && (1 : Int) == 1 && (sIx items.size items.size hi - sIx items.size 0 lo) == items.size) = true then _ else _) _ _ s
  rw [if_pos hno]
  refine wpAny_bind (m := Builtin.Tuple.tupleIsExact _) (wpAny_bind (wpAny_typeOf ht.typeIs (wpAny_pure ?_)))
  rw [if_pos (by decide)]
  refine wpAny_bind (wpAny_rule ?_)
  exact wpAny_pure ⟨_, rfl, wpAny_pure h⟩
end
end HT
namespace L2
open PySem PySem.Spec PyProof.Rows
section
variable {X : Cx}
theorem cutV_all {xs : List V} {lo hi : Option Int} (h : HT.sIx xs.length 0 lo = 0 ∧ HT.sIx xs.length xs.length hi = xs.length) : cutV xs lo hi = xs := by
  unfold cutV
  rw [h.1, h.2, List.drop_zero, Nat.sub_zero, List.take_of_length_le (Nat.le_refl _)]
/-- sum of a list of ints -/
theorem call_sum (hc : X.calm = true) : CallR X (.builtin "sum") (fun xs H Q => ∃ (a : Addr) (ns : List Int), xs = [.ref a] ∧ SqL X.K H a (ns.map V.int) ∧ Q (.int ns.sum) H) := by
  intro pins s σ H xs us Q I r h
  obtain ⟨a, ns, rfl, ha, q⟩ := h
  obtain ⟨u, rfl, ru⟩ := vals1 r
  cases ru
  obtain ⟨its, r1, pl, hz⟩ := I.list ha
  have hi := intsAre_of r1
  obtain ⟨ys, hys⟩ := hi.allInts.items
  have e1 : (intItems ys).toList = its := by rw [← hys]
  have e2 : preSum (numAt ys) ys.size = ns.sum := by
    rw [preSum_eq, List.take_of_length_le (by simp), ← nums_intItems, e1, hi.numsOf]
  refine sum_intListG (I.ok.hd hc) (hys ▸ pl.isList) fun h' tk t' hk => ?_
  rw [e2]
  exact ⟨.int ns.sum, H, I.kept hk, ⟨_, rfl⟩, q⟩
end
end L2

set_option Elab.async false
set_option linter.all false
set_option maxRecDepth 100000
set_option maxHeartbeats 4000000
namespace L2
open PySem PySem.Spec PyProof.Rows
section
variable {X : Cx}
/-- t[lo:hi] of a plain tuple -/
def rSlP : V → Option Int → Option Int → Hp → VK → Prop := fun x lo hi H Q => ∃ a xs, x = .ref a ∧ H a = some (.tup xs) ∧ ∀ p H', Same H H' → H' p = some (.tup (cutV xs lo hi)) → Q (.ref p) H'
theorem sl_tupP : SlR X rSlP := by
  intro pins s σ H x v vl vu lo hi sl Q I rx hs pl pu h
  obtain ⟨a, xs, rfl, hx, q⟩ := h
  by_cases hw : HT.sIx xs.length 0 lo = 0 ∧ HT.sIx xs.length xs.length hi = xs.length
  · cases rx
    obtain ⟨its, r, ht, hz⟩ := I.tuple (SqT.of hx)
    have hlen : its.toArray.size = xs.length := by rw [List.size_toArray]; exact r.length.symm
    refine ⟨"tuple", _, PyProof.Rows.slot_tuple_getitem.lookup, ht.typeIs, ?_⟩
    refine HT.getItem_tuple_all ht hs pl pu (by rw [hlen]; exact hw) ?_
    exact ⟨.ref a, H, I, rfl, q a H (Same.refl H) (by rw [cutV_all hw]; exact hx)⟩
  · exact sl_tup pins s σ H (.ref a) v vl vu lo hi sl Q I rx hs pl pu ⟨a, xs, rfl, SqT.of hx, hw, fun p hp => q p _ (same_upd hp) upd_same⟩
end
end L2

set_option Elab.async false
set_option linter.all false
set_option maxRecDepth 100000
set_option maxHeartbeats 4000000
namespace L2
open PySem PySem.Spec PyProof.Rows
/-! ### a call while a list is hidden: what comes back does not reach it -/
section
variable {X : Cx} {pins : List (Addr × Obj)} {σ : St} {H H1 : Hp} {s s1 : Shared}
end
section
variable {X : Cx} {CX : CXT} {k : Nat} {f : Addr} {fd : FuncData} {ps : List Str} {sp : Sp} {E : XK} {x : Str} {p pos : Pos} {e : Expr} {es : List Expr} {t : TA} {ds : List Value} {dvs : List V}
end
end L2

set_option Elab.async false
set_option linter.all false
set_option maxRecDepth 100000
set_option maxHeartbeats 4000000
namespace L2
open PySem PySem.Spec PyProof.Rows
/-! ### a dict of constants, whatever its length up to fifteen -/
section
variable {X : Cx}
end
end L2

set_option Elab.async false
set_option linter.all false
set_option maxRecDepth 100000
set_option maxHeartbeats 4000000
namespace L2
open PySem PySem.Spec PyProof.Rows
section
variable {X : Cx}
end
end L2

set_option Elab.async false
set_option linter.all false
set_option maxRecDepth 100000
set_option maxHeartbeats 4000000
namespace L2
open PySem PySem.Spec PyProof.Rows
section
variable {X : Cx} {pins : List (Addr × Obj)} {σ : St} {H : Hp} {s : Shared} {h' : Heap}
/-- some objects turned, all of them an iterator's own -/
theorem Inv.turnedL {t' : Nat} {ch : List Addr} (I : Inv X pins σ H s) (k : ∀ b o, b ∉ ch → s.heap.get? b = some o → h'.get? b = some o) (hf : ∀ b ∈ ch, FpOk X pins H b) : Inv X pins σ H { s with heap := h', toks := t' } := by
  have nit : ∀ b u, H b = some u → b ∉ ch := fun b u e z => by rw [(hf b z).1] at e; cases e
  refine I.step (g' := s.gens) (d' := s.drawn) (ch := ch) (fun b hb => ?_) (fun b o _ _ hc e _ => k b o hc e) (fun b o _ _ hc e _ => ⟨o.slots, k b o hc e⟩) (fun _ _ _ _ n => n)
    (fun b o hc e => ⟨o, k b o hc e⟩) (fun _ _ e => e) (fun _ _ _ e => e) (fun b ps e => ⟨#[], by rw [e]; simp⟩) (fun m hm => ?_) (fun b u e => ?_) I.bare
  · obtain ⟨f0, f1, f2, f3, f4, f5⟩ := hf b hb
    exact ⟨f3, f1, f4, f5⟩
  · obtain ⟨o, es, ep, ho, r⟩ := hm
    exact ⟨o, es, ep, k _ o (fun z => (hf _ z).2.1 rfl) ho, r⟩
  · refine (I.hok b u e).stay (fun c v hc q => k c v ?_ q) (fun _ q => q) fun _ _ q => q
    rcases hc with z | z
    · rw [z]; exact nit b u e
    · exact nit c _ z
/-- the same, and a new object laid and tracked -/
theorem Inv.turnedLaid {t' : Nat} {ch : List Addr} {a : Addr} {o : HO} (I : Inv X pins σ H s) (k : ∀ b o, b ∉ ch → s.heap.get? b = some o → h'.get? b = some o) (hf : ∀ b ∈ ch, FpOk X pins H b) (hp : s.heap.objs.size ≤ a) (new : ObjOk X.prog X.w (upd H a o) h' a o) :
    Inv X pins σ (upd H a o) { s with heap := h', toks := t' } := by
  have nit : ∀ b u, H b = some u → b ∉ ch := fun b u e z => by rw [(hf b z).1] at e; cases e
  have hn : H a = none := I.hok.fresh hp
  have old : ∀ b u, H b = some u → upd H a o b = some u := fun b u e => by rw [upd_ne (ne_of_none e hn)]; exact e
  refine I.step (g' := s.gens) (d' := s.drawn) (ch := ch) (fun b hb => ?_) (fun b o _ _ hc e _ => k b o hc e) (fun b o _ _ hc e _ => ⟨o.slots, k b o hc e⟩) (fun b u _ e n => ?_)
    (fun b o hc e => ⟨o, k b o hc e⟩) (fun _ _ e => old _ _ e) (fun _ _ _ e => old _ _ e) (fun b ps e => ⟨#[], by rw [old _ _ e]; simp⟩) (fun m hm => ?_) (fun b u e => ?_) I.bare
  · obtain ⟨f0, f1, f2, f3, f4, f5⟩ := hf b hb
    exact ⟨f3, f1, f4, f5⟩
  · rw [upd_ne (fun z => by subst z; exact absurd (Nat.lt_of_lt_of_le (Heap.lt_size e) hp) (Nat.lt_irrefl _))]
    exact n
  · obtain ⟨o, es, ep, ho, r⟩ := hm
    exact ⟨o, es, ep, k _ o (fun z => (hf _ z).2.1 rfl) ho, r⟩
  · by_cases hb : b = a
    · subst hb; rw [upd_same] at e; cases e; exact new
    · rw [upd_ne hb] at e
      refine (I.hok b u e).stay (fun c v hc q => k c v ?_ q) (fun c q => old _ _ q) fun c xs q => old _ _ q
      rcases hc with z | z
      · rw [z]; exact nit b u e
      · exact nit c _ z
end
/-! ### enumerate -/
end L2

set_option Elab.async false
set_option linter.all false
set_option maxRecDepth 100000
set_option maxHeartbeats 4000000
namespace L2
open PySem PySem.Spec PyProof.Rows PySem.Builtin PySem.AutoSeq1
/-! ### enumerate of a tuple -/
section
variable {P : Program} {w : World} {B : Around} {G : Value → Shared → Prop} {z : Shared}
theorem drawT_item {gi tp : Addr} {n : Nat} {ys : Array Value} {y : Value} {R : Value → Shared → Prop} (g : z.heap.IsTupleIter gi tp n) (t : z.heap.IsTuple tp ys) (hy : ys[n]? = some y)
    (q : ∀ k, k.IsTupleIter gi tp (n + 1) → Heap.SameBut gi z.heap k → R y { z with heap := k }) : wpAny (model P w) B (SmallTypes.nextOf (.ref gi)) R G z := by
  obtain ⟨og, g1, g2, g3⟩ := id g
  obtain ⟨ot, t1, t2, m, t3⟩ := t
  unfold SmallTypes.nextOf
  refine wpAny_bind (wpAny_callSpecial?_slot (name := Str.ofString "__next__") g.typeIs F.slot_tuple_iterator_next (wpAny_call_entry F.slot_tuple_iterator_next g.typeIs F.entry_tuple_iterator_next ?_ (F.args_tuple_iterator_next_1 _)))
  show wpAny _ _ (field (.ref gi) 0 >>= _) _ _ z
  refine wpAny_bind (wpAny_field g1 g3 (x := .ref tp) rfl ?_)
  show wpAny _ _ (if (Value.ref tp == Value.none) = true then _ else _) _ _ z
  rw [if_neg (show ¬ ((Value.ref tp == Value.none) = true) from Bool.false_ne_true)]
  show wpAny _ _ (field (.ref gi) 1 >>= _) _ _ z
  refine wpAny_bind (wpAny_field g1 g3 (x := .int n 0) rfl ?_)
  show wpAny _ _ (seqItems? (.ref tp) >>= _) _ _ z
  refine wpAny_bind (wpAny_seqItems t1 t3 ?_)
  simp only [Int.toNat_natCast, hy]
  refine wpAny_bind (wpAny_setField g1 g3 (by simp) (wpAny_pure ⟨y, rfl, wpAny_pure (q _ ?_ (Heap.SameBut.update ..))⟩))
  exact ⟨_, Heap.get?_update_self _ g1 (Obj.isFreed_of_fields (Obj.data_mapFields g3 _)), (Obj.cls_mapFields ..).trans g2, by rw [Obj.data_mapFields g3]; simp [rawInt]⟩
theorem drawT_end {gi tp : Addr} {n : Nat} {ys : Array Value} {R : Value → Shared → Prop} (hb : B.handled = none) (g : z.heap.IsTupleIter gi tp n) (t : z.heap.IsTuple tp ys) (hy : ys[n]? = none)
    (q : ∀ k e, Heap.ExtBut gi z.heap k → (∃ o, k.get? e = some o ∧ o.cls = .type "StopIteration") → G (.ref e) { z with heap := k }) : wpAny (model P w) B (SmallTypes.nextOf (.ref gi)) R G z := by
  obtain ⟨og, g1, g2, g3⟩ := id g
  obtain ⟨ot, t1, t2, m, t3⟩ := t
  unfold SmallTypes.nextOf
  refine wpAny_bind (wpAny_callSpecial?_slot (name := Str.ofString "__next__") g.typeIs F.slot_tuple_iterator_next (wpAny_call_entry F.slot_tuple_iterator_next g.typeIs F.entry_tuple_iterator_next ?_ (F.args_tuple_iterator_next_1 _)))
  show wpAny _ _ (field (.ref gi) 0 >>= _) _ _ z
  refine wpAny_bind (wpAny_field g1 g3 (x := .ref tp) rfl ?_)
  show wpAny _ _ (if (Value.ref tp == Value.none) = true then _ else _) _ _ z
  rw [if_neg (show ¬ ((Value.ref tp == Value.none) = true) from Bool.false_ne_true)]
  show wpAny _ _ (field (.ref gi) 1 >>= _) _ _ z
  refine wpAny_bind (wpAny_field g1 g3 (x := .int n 0) rfl ?_)
  show wpAny _ _ (seqItems? (.ref tp) >>= _) _ _ z
  refine wpAny_bind (wpAny_seqItems t1 t3 ?_)
  simp only [Int.toNat_natCast, hy]
  refine wpAny_bind (wpAny_rule (wpAny_bind (wpAny_setField g1 g3 (by simp) ?_)))
  refine wpAny_bind (m := newExc (.type "StopIteration") []) ?_
  simp only [newExc, newTuple]; refine wpAny_bind (wpAny_newObj_type ?_ (by size_fits))
  refine wpAny_bind (m := firstArgMember _ _) (wpAny_of_eq (a := Value.none) (by first | rfl | (simp only [firstArgMember]; rfl)) ?_); refine wpAny_newObj_type ?_ (by size_fits)
  simp only [raiseNew]; refine wpAny_bind (wpAny_handled ?_)
  first | rw [show B.in1.handled = none from hb] | rw [hb]
  refine wpAny_bind (wpAny_pure (wpAny_throw ?_)); exact q _ _ (((Heap.SameBut.update ..).extBut.push _).push _) ⟨_, Heap.get?_push_size _ rfl, rfl⟩
end
end L2

set_option Elab.async false
set_option linter.all false
set_option maxRecDepth 100000
set_option maxHeartbeats 4000000
namespace L2
open PySem PySem.Spec PyProof.Rows
section
variable {X : Cx}
end
end L2

set_option Elab.async false
set_option linter.all false
set_option maxRecDepth 100000
set_option maxHeartbeats 4000000
namespace L2
open PySem PySem.Spec PyProof.Rows
section
variable {X : Cx}
end
/-! ### repr of a tuple of things -/
section
variable {X : Cx}
end
end L2

set_option Elab.async false
set_option linter.all false
set_option maxRecDepth 100000
set_option maxHeartbeats 4000000
namespace L2
open PySem PySem.Spec PyProof.Rows
/-! ### things: what they are, how large, how deep -/
def isTup : Th → Bool
  | .tup _ => true
  | _ => false
def tyOf : Th → String
  | .at .non => "NoneType"
  | .at (.bl _) => "bool"
  | .at (.int _) => "int"
  | .at (.str _) => "str"
  | .tup _ => "tuple"
  | .lst _ => "list"
  | _ => ""
def isBlT : Th → Bool
  | .at (.bl _) => true
  | _ => false
def isIntT : Th → Bool
  | .at (.int _) => true
  | .at (.bl _) => true
  | _ => false
theorem th_ty {K : PySem.W.Frag} {H : Hp} {v : V} {t : Th} (h : IsTh H v t) : TyOf K H v (.type (tyOf t)) := by
  cases h with
  | «at» f =>
    cases v with
    | non => exact .non
    | bl b => exact .bl b
    | int i => exact .int i
    | str x => exact .str x
    | _ => exact absurd (show false = true from f) Bool.false_ne_true
  | tup e r => exact .tup e
  | lst e r => exact .lst e
structure Kits (K : PySem.W.Frag) : Prop where
  int : ∀ {H : Hp} {v : V} {t : Th}, IsTh H v t → PySem.W.kitOne K (.type (tyOf t)) (.type "int") = some (isIntT t)
  bl : ∀ {H : Hp} {v : V} {t : Th}, IsTh H v t → PySem.W.kitOne K (.type (tyOf t)) (.type "bool") = some (isBlT t)
  tup : ∀ {H : Hp} {v : V} {t : Th}, IsTh H v t → PySem.W.kitOne K (.type (tyOf t)) (.type "tuple") = some (isTup t)
theorem ths_get {H : Hp} : ∀ (vs : List V) {ts : List Th} {i : Nat} {v : V}, IsThs H vs ts → vs[i]? = some v → ∃ t, ts[i]? = some t ∧ IsTh H v t := by
  intro vs
  induction vs with
  | nil => intro ts i v h e; cases e
  | cons u vs ih =>
    intro ts i v h e
    cases h with
    | cons a b =>
      cases i with
      | zero =>
        have e' : u = v := by simpa using e
        subst e'
        exact ⟨_, rfl, a⟩
      | succ i =>
        rw [List.getElem?_cons_succ] at e
        obtain ⟨t, e1, e2⟩ := ih b e
        exact ⟨t, by rw [List.getElem?_cons_succ]; exact e1, e2⟩
theorem ths_at {H : Hp} : ∀ (vs : List V) {ts : List Th} {i : Nat} {t : Th}, IsThs H vs ts → ts[i]? = some t → ∃ v, vs[i]? = some v ∧ IsTh H v t := by
  intro vs
  induction vs with
  | nil => intro ts i t h e; cases h; simp at e
  | cons v vs ih =>
    intro ts i t h e
    cases h with
    | cons a b =>
      cases i with
      | zero => simp at e; subst e; exact ⟨v, rfl, a⟩
      | succ i => simp at e; obtain ⟨w, e1, e2⟩ := ih b e; exact ⟨w, by simpa using e1, e2⟩
theorem th_tup {H : Hp} {v : V} {ts : List Th} (h : IsTh H v (.tup ts)) : ∃ a vs, v = .ref a ∧ H a = some (.tup vs) ∧ IsThs H vs ts := by
  cases h with
  | tup e r => exact ⟨_, _, rfl, e, r⟩
theorem th_lst {H : Hp} {v : V} {ts : List Th} (h : IsTh H v (.lst ts)) : ∃ a vs, v = .ref a ∧ H a = some (.lst vs) ∧ IsThs H vs ts := by
  cases h with
  | lst e r => exact ⟨_, _, rfl, e, r⟩
theorem th_at {H : Hp} {v w : V} (h : IsTh H v (.at w)) : v = w ∧ smallV w = true := by
  cases h with
  | «at» f => exact ⟨rfl, f⟩
/-- the last of them -/
theorem ths_last {H : Hp} : ∀ (ws : List V) {us : List Th}, IsThs H ws us → ws ≠ [] → ∃ ws' y us' u, ws = ws' ++ [y] ∧ us = us' ++ [u] ∧ IsThs H ws' us' ∧ IsTh H y u := by
  intro ws
  induction ws with
  | nil => intro us h n; exact absurd rfl n
  | cons v vs ih =>
    intro us h _
    cases h with
    | @cons _ _ t ts a b =>
      cases vs with
      | nil => cases b; exact ⟨[], v, [], t, rfl, rfl, .nil, a⟩
      | cons v2 vs2 =>
        obtain ⟨ws', y, us', u, e1, e2, h1, h2⟩ := ih b (by intro z; cases z)
        exact ⟨v :: ws', y, t :: us', u, by rw [e1]; rfl, by rw [e2]; rfl, .cons a h1, h2⟩
theorem ths_rev {H : Hp} : ∀ (vs : List V) {ts : List Th}, IsThs H vs ts → IsThs H vs.reverse ts.reverse := by
  intro vs
  induction vs with
  | nil => intro ts h; cases h; exact .nil
  | cons v vs ih =>
    intro ts h
    cases h with
    | cons a b =>
      rw [List.reverse_cons, List.reverse_cons]
      exact IsThs.app _ (ih b) (.cons a .nil)
mutual
def Th.sz : Th → Nat
  | .at _ => 1
  | .tup xs => 1 + szs xs
  | .lst xs => 1 + szs xs
def szs : List Th → Nat
  | [] => 0
  | x :: xs => Th.sz x + szs xs
end
theorem sz_pos (t : Th) : 1 ≤ Th.sz t := by
  cases t with
  | «at» v => simp [Th.sz]
  | tup xs => simp [Th.sz]
  | lst xs => simp [Th.sz]
theorem szs_app : ∀ us ws : List Th, szs (us ++ ws) = szs us + szs ws := by
  intro us
  induction us with
  | nil => intro ws; simp [szs]
  | cons u us ih => intro ws; rw [List.cons_append, szs, szs, ih]; omega
theorem szs_len : ∀ ts : List Th, ts.length ≤ szs ts := by
  intro ts
  induction ts with
  | nil => simp [szs]
  | cons t ts ih => have := sz_pos t; rw [List.length_cons, szs]; omega
theorem sz_mem : ∀ (ts : List Th) (t : Th), t ∈ ts → Th.sz t ≤ szs ts := by
  intro ts
  induction ts with
  | nil => intro t h; cases h
  | cons u ts ih =>
    intro t h
    rw [szs]
    rcases List.mem_cons.mp h with z | z
    · subst z; omega
    · have := ih t z; omega
/-- the parts of a node -/
def kidsL (ts : List Th) : List Th := ts.filter isTup
/-- a node: a word, then plain things and nodes; a let has two parts -/
def OkT : Nat → Th → Prop
  | 0, _ => False
  | n + 1, t => ∃ (w : Str) (ts : List Th), t = .tup (.at (.str w) :: ts) ∧ (w = "let" → (kidsL ts).length = 2) ∧ ∀ x ∈ ts, isTup x = true → OkT n x
theorem OkT.up : ∀ (n : Nat) {t : Th}, OkT n t → OkT (n + 1) t := by
  intro n
  induction n with
  | zero => intro t h; exact h.elim
  | succ n ih =>
    intro t h
    obtain ⟨w, ts, e, h1, h2⟩ := h
    exact ⟨w, ts, e, h1, fun x hx hx2 => ih (h2 x hx hx2)⟩
theorem same_none {H H' : Hp} {p : Addr} (s : Same H H') (h : H' p = none) : H p = none := by
  cases e : H p with
  | none => rfl
  | some o => rw [s p o e] at h; cases h
theorem cut1q (x : V) (xs : List V) : cutV (x :: xs) (some 1) none = xs := by
  have e1 : HT.sIx (x :: xs).length 0 (some 1) = min 1 (x :: xs).length := rfl
  have e2 : HT.sIx (x :: xs).length (x :: xs).length none = (x :: xs).length := rfl
  unfold cutV
  rw [e1, e2, List.length_cons]
  have e3 : min 1 (xs.length + 1) = 1 := by omega
  rw [e3]
  show List.take (xs.length + 1 - 1) xs = xs
  exact List.take_of_length_le (by omega)
end L2

set_option Elab.async false
set_option linter.all false
set_option maxRecDepth 100000
set_option maxHeartbeats 4000000
namespace L2
open PySem
/-! ### the walk through a tree, as plain lists -/
def isLetT (xs : List Th) : Bool := match xs with
  | .at (.str w) :: _ => decide (w = "let")
  | _ => false
def markT (l : Bool) (me : Th) : Nat → List (Str × Th)
  | 0 => if l = true then [(("opened" : Str), me)] else []
  | 1 => if l = true then [(("closed" : Str), me)] else []
  | _ => []
mutual
def stepsT : Th → List (Str × Th)
  | .tup xs => (("node" : Str), Th.tup xs) :: innerT (isLetT xs) (.tup xs) 0 xs
  | .at _ => []
  | .lst _ => []
def innerT (l : Bool) (me : Th) : Nat → List Th → List (Str × Th)
  | _, [] => []
  | i, x :: xs => if isTup x = true then stepsT x ++ (markT l me i ++ innerT l me (i + 1) xs) else innerT l me i xs
end
def innerK (l : Bool) (me : Th) : Nat → List Th → List (Str × Th)
  | _, [] => []
  | i, k :: ks => stepsT k ++ (markT l me i ++ innerK l me (i + 1) ks)
theorem inner_kids (l : Bool) (me : Th) : ∀ (xs : List Th) (i : Nat), innerT l me i xs = innerK l me i (kidsL xs) := by
  intro xs
  induction xs with
  | nil => intro i; simp [innerT, innerK, kidsL]
  | cons x xs ih =>
    intro i
    rw [innerT]
    unfold kidsL
    rw [List.filter_cons]
    split
    · rw [innerK, ih]; rfl
    · rw [ih]; rfl
theorem innerK_plain (me : Th) : ∀ (ks : List Th) (i : Nat), innerK false me i ks = (ks.map stepsT).flatten := by
  intro ks
  induction ks with
  | nil => intro i; rfl
  | cons k ks ih =>
    intro i
    have e : markT false me i = [] := by
      match i with
      | 0 => rfl
      | 1 => rfl
      | _ + 2 => rfl
    rw [innerK, ih, e, List.map_cons, List.flatten_cons, List.nil_append]
theorem steps_plain {xs : List Th} (h : isLetT xs = false) : stepsT (.tup xs) = (("node" : Str), Th.tup xs) :: ((kidsL xs).map stepsT).flatten := by
  rw [stepsT, inner_kids, h, innerK_plain]
theorem steps_let {xs : List Th} {k1 k2 : Th} (h : isLetT xs = true) (hk : kidsL xs = [k1, k2]) : stepsT (.tup xs) = (("node" : Str), Th.tup xs) :: (stepsT k1 ++ ((("opened" : Str), Th.tup xs) :: (stepsT k2 ++ [(("closed" : Str), Th.tup xs)]))) := by
  rw [stepsT, inner_kids, h, hk]
  simp [innerK, markT]
def todo1 (p : Str × Th) : List (Str × Th) := if p.1 = "node" then stepsT p.2 else [p]
/-- what a stack (its top last) still stands for -/
def todoT (st : List (Str × Th)) : List (Str × Th) := (st.reverse.map todo1).flatten
theorem todo_snoc (st : List (Str × Th)) (x : Str × Th) : todoT (st ++ [x]) = todo1 x ++ todoT st := by
  unfold todoT; simp
theorem todo_rev (st r : List (Str × Th)) : todoT (st ++ r.reverse) = (r.map todo1).flatten ++ todoT st := by
  unfold todoT; simp
theorem todo1_node (t : Th) : todo1 (("node" : Str), t) = stepsT t := by unfold todo1; simp
theorem todo1_open (t : Th) : todo1 (("opened" : Str), t) = [(("opened" : Str), t)] := by
  unfold todo1; rw [if_neg (by show ¬ (("opened" : Str) = "node"); decide +kernel)]
theorem todo1_close (t : Th) : todo1 (("closed" : Str), t) = [(("closed" : Str), t)] := by
  unfold todo1; rw [if_neg (by show ¬ (("closed" : Str) = "node"); decide +kernel)]
theorem todo_plain {st : List (Str × Th)} {xs : List Th} (h : isLetT xs = false) : todoT (st ++ [(("node" : Str), Th.tup xs)]) = (("node" : Str), Th.tup xs) :: todoT (st ++ ((kidsL xs).map fun k => (("node" : Str), k)).reverse) := by
  rw [todo_snoc, todo_rev, todo1_node, steps_plain h, List.map_map]
  show _ :: (_ ++ _) = _ :: (_ ++ _)
  congr 2
theorem todo_let {st : List (Str × Th)} {xs : List Th} {k1 k2 : Th} (h : isLetT xs = true) (hk : kidsL xs = [k1, k2]) :
    todoT (st ++ [(("node" : Str), Th.tup xs)]) = (("node" : Str), Th.tup xs) :: todoT (st ++ ([(("node" : Str), k1), (("opened" : Str), Th.tup xs), (("node" : Str), k2), (("closed" : Str), Th.tup xs)] : List (Str × Th)).reverse) := by
  rw [todo_snoc, todo_rev, todo1_node, steps_let h hk]
  simp [todo1_node, todo1_open, todo1_close]
/-- a pair in the heap -/
def pr (p : Str × Th) : Th := .tup [.at (.str p.1), p.2]
/-! ### how many nodes, and the ways to them -/
mutual
def cnt : Th → Nat
  | .tup xs => 1 + cnts xs
  | .at _ => 0
  | .lst _ => 0
def cnts : List Th → Nat
  | [] => 0
  | x :: xs => cnt x + cnts xs
end
mutual
def dp : Th → Nat
  | .tup xs => 1 + dps xs
  | .at _ => 0
  | .lst _ => 0
def dps : List Th → Nat
  | [] => 0
  | x :: xs => max (dp x) (dps xs)
end
theorem cnt_tup (t : Th) (h : isTup t = false) : cnt t = 0 := by
  cases t with
  | «at» v => simp [cnt]
  | lst xs => simp [cnt]
  | tup xs => cases h
theorem cnts_kids : ∀ xs : List Th, cnts xs = cnts (kidsL xs) := by
  intro xs
  induction xs with
  | nil => rfl
  | cons x xs ih =>
    unfold kidsL
    rw [cnts, List.filter_cons]
    split
    · rw [cnts, ih]; rfl
    · rw [cnt_tup x (by simp_all), Nat.zero_add, ih]; rfl
/-- the deeds "node" of a walk are the nodes -/
def nodeDeeds (l : List (Str × Th)) : List (Str × Th) := l.filter fun p => decide (p.1 = "node")
theorem mark_deeds (l : Bool) (me : Th) (i : Nat) : nodeDeeds (markT l me i) = [] := by
  have e1 : decide (("opened" : Str) = "node") = false := by decide +kernel
  have e2 : decide (("closed" : Str) = "node") = false := by decide +kernel
  match i with
  | 0 => cases l <;> simp [nodeDeeds, markT, e1]
  | 1 => cases l <;> simp [nodeDeeds, markT, e2]
  | _ + 2 => rfl
end L2

set_option Elab.async false
set_option linter.all false
set_option maxRecDepth 100000
set_option maxHeartbeats 4000000
namespace L2
open PySem PySem.Spec PyProof.Rows
section
variable {K : PySem.W.Frag} {a : Addr} {xs : List V} {σ0 : St} {H : Hp} {g : TG} {tt : TT} {te : TE} {Q : List V → Hp → Prop}
end
/-! ### ways -/
end L2

set_option Elab.async false
set_option linter.all false
set_option maxRecDepth 100000
set_option maxHeartbeats 1000000
namespace Srt
open PySem PyProof.Rows
section
variable {prog : Program} {w : World} {A : Around} {E : Value → Shared → Prop} {s : Shared}
end
end Srt

set_option Elab.async false
set_option linter.all false
set_option maxRecDepth 100000
set_option maxHeartbeats 1000000
namespace Srt
open PySem PyProof.Rows
end Srt

set_option Elab.async false
set_option linter.all false
set_option maxRecDepth 100000
set_option maxHeartbeats 1000000
namespace Srt
open PySem PyProof.Rows
section
variable {prog : Program} {w : World} {A : Around} {E : Value → Shared → Prop} {s : Shared}
end
end Srt

set_option Elab.async false
set_option linter.all false
set_option maxRecDepth 100000
set_option maxHeartbeats 1000000
namespace Srt
open PySem PyProof.Rows
section
variable {prog : Program} {w : World} {A : Around} {E : Value → Shared → Prop} {s : Shared}
end
end Srt

set_option Elab.async false
set_option linter.all false
set_option maxRecDepth 100000
set_option maxHeartbeats 1000000
namespace Srt
open PySem PyProof.Rows
section
variable {prog : Program} {w : World} {A : Around} {E : Value → Shared → Prop} {s : Shared} {a₀ : Array Keyed} {P : Array (Nat × Nat × Nat)}
end
end Srt

set_option Elab.async false
set_option linter.all false
set_option maxRecDepth 100000
set_option maxHeartbeats 1000000
namespace Srt
open PySem PyProof.Rows
section
variable {prog : Program} {w : World} {A : Around} {E : Value → Shared → Prop} {s : Shared} {a₀ : Array Keyed} {P : Array (Nat × Nat × Nat)}
end
end Srt

set_option Elab.async false
set_option linter.all false
set_option maxRecDepth 100000
set_option maxHeartbeats 1000000
namespace Srt
open PySem PyProof.Rows
section
variable {prog : Program} {w : World} {A : Around} {E : Value → Shared → Prop} {s : Shared} {a₀ : Array Keyed} {P : Array (Nat × Nat × Nat)}
end
end Srt

set_option Elab.async false
set_option linter.all false
set_option maxRecDepth 100000
set_option maxHeartbeats 1000000
namespace Srt
open PySem PyProof.Rows
section
variable {M : Model} {A : Around} {E : Value → Shared → Prop}
end
end Srt

set_option Elab.async false
set_option linter.all false
set_option maxRecDepth 100000
set_option maxHeartbeats 4000000
namespace Srt
open PySem PyProof.Rows
section
variable {P : Program} {w : World} {A : Around} {E : Value → Shared → Prop} {s : Shared}
end
end Srt

set_option Elab.async false
set_option linter.all false
set_option maxRecDepth 100000
set_option maxHeartbeats 4000000
namespace Srt
open PySem PyProof.Rows PySem.Spec
section
variable {P : Program} {w : World} {A : Around} {E : Value → Shared → Prop} {s : Shared}
end
end Srt

set_option Elab.async false
set_option linter.all false
set_option maxRecDepth 100000
set_option maxHeartbeats 4000000
namespace Srt
open PySem PyProof.Rows PySem.Spec
section
variable {P : Program} {w : World} {A : Around} {R : Result → Shared → Prop} {I : Addr} {fp wr : List Addr} {G : Array GenState → Array GenState → Prop} {n : Nat} {Pv : Nat → Value → Prop} {St : Nat → Shared → Prop}
end
section
variable {P : Program} {w : World} {A : Around} {E : Value → Shared → Prop} {s : Shared}
end
end Srt

set_option Elab.async false
set_option linter.all false
set_option maxRecDepth 100000
set_option maxHeartbeats 4000000
namespace Srt
open PySem PyProof.Rows PySem.Spec
end Srt

set_option Elab.async false
set_option linter.all false
set_option maxRecDepth 100000
set_option maxHeartbeats 4000000
namespace Srt
open PySem PyProof.Rows PySem.Spec
section
variable {P : Program} {w : World} {A : Around} {E : Value → Shared → Prop} {s : Shared}
end
/-! ### the three walks -/
section
variable {P : Program} {w : World} {A : Around}
end
end Srt

set_option Elab.async false
set_option linter.all false
set_option maxRecDepth 100000
set_option maxHeartbeats 4000000
namespace Srt
open PySem PyProof.Rows PySem.Spec
section
variable {P : Program} {w : World} {A : Around} {E : Value → Shared → Prop} {s : Shared}
end
end Srt

set_option Elab.async false
set_option linter.all false
set_option maxRecDepth 100000
set_option maxHeartbeats 4000000
namespace Srt
open PySem PyProof.Rows PySem.Spec
section
variable {P : Program} {w : World} {A : Around} {E : Value → Shared → Prop} {s : Shared}
end
end Srt

set_option Elab.async false
set_option linter.all false
set_option maxRecDepth 100000
set_option maxHeartbeats 4000000
namespace L2
open PySem PySem.Spec PyProof.Rows Srt
section
variable {X : Cx} {pins : List (Addr × Obj)} {σ : St} {H : Hp} {s : Shared}
theorem ints_rel : ∀ {ns : List Int} {us : List Value}, Vals (ns.map V.int) us → IntsAre us ns
  | [], _, .nil => .nil
  | n :: r, _, .cons ⟨t, e⟩ h => by
    subst e
    exact .cons n t (ints_rel h)
theorem rel_ints : ∀ {ns : List Int} {us : List Value}, IntsAre us ns → Vals (ns.map V.int) us
  | _, _, .nil => .nil
  | _, _, .cons n t h => .cons ⟨t, rfl⟩ (rel_ints h)
end
section
variable {X : Cx} {o e : Expr} {to : TE} {t : TA} {apos cpos : Pos}
end
end L2

set_option Elab.async false
set_option linter.all false
set_option maxRecDepth 100000
set_option maxHeartbeats 4000000
namespace L2
open PySem PySem.Spec PyProof.Rows
mutual
/-- a thing of tuples, ints and texts -/
def plT : Th → Bool
  | .at (.int _) => true
  | .at (.str _) => true
  | .at _ => false
  | .tup xs => plTs xs
  | .lst _ => false
def plTs : List Th → Bool
  | [] => true
  | x :: xs => plT x && plTs xs
end
mutual
def pvT : Th → PV
  | .at v => .at v
  | .tup xs => .tup (pvTs xs)
  | .lst _ => .at .non
def pvTs : List Th → List PV
  | [] => []
  | x :: xs => pvT x :: pvTs xs
end
mutual
theorem pv_of {K : PySem.W.Frag} {H : Hp} : ∀ {v : V} {t : Th}, IsTh H v t → ∀ n, plT t = true → dp t ≤ n → IsPV K H n v (pvT t)
  | _, _, .at f, n, hp, hd => by rw [pvT]; exact .at (smallV.flat f)
  | _, _, .tup h r, n, hp, hd => by
    rw [dp] at hd
    rw [plT] at hp
    rw [pvT]
    cases n with
    | zero => exact absurd hd (by omega)
    | succ n => exact .tup (SqT.of h) (pvs_of r n hp (by omega))
  | _, _, .lst h r, n, hp, hd => by rw [plT] at hp; cases hp
theorem pvs_of {K : PySem.W.Frag} {H : Hp} : ∀ {vs : List V} {ts : List Th}, IsThs H vs ts → ∀ n, plTs ts = true → dps ts ≤ n → IsPVs K H n vs (pvTs ts)
  | _, _, .nil, n, hp, hd => by rw [pvTs]; exact .nil
  | _, _, .cons h r, n, hp, hd => by
    rw [plTs, Bool.and_eq_true] at hp
    rw [dps] at hd
    rw [pvTs]
    exact .cons (pv_of h n hp.1 (by omega)) (pvs_of r n hp.2 (by omega))
end
theorem eqAtV_iff {v w : V} (hv : plT (.at v) = true) (hw : plT (.at w) = true) : eqV v w = true ↔ v = w := by
  cases v with
  | int i =>
    cases w with
    | int j => simp [eqV]
    | str y => simp [eqV]
    | _ => simp [plT] at hw
  | str x =>
    cases w with
    | int j => simp [eqV]
    | str y => simp [eqV]
    | _ => simp [plT] at hw
  | _ => simp [plT] at hv
mutual
theorem eqpv_iff : ∀ (t u : Th), plT t = true → plT u = true → (eqPV (pvT t) (pvT u) = true ↔ t = u)
  | .at v, .at w, ht, hu => by rw [pvT, pvT, eqPV, eqAtV_iff ht hu]; simp
  | .at v, .tup ys, ht, hu => by rw [pvT, pvT, eqPV]; simp
  | .tup xs, .at w, ht, hu => by rw [pvT, pvT, eqPV]; simp
  | .tup xs, .tup ys, ht, hu => by rw [plT] at ht hu; rw [pvT, pvT, eqPV, eqpvs_iff xs ys ht hu]; simp
  | .lst _, _, ht, hu => by rw [plT] at ht; cases ht
  | _, .lst _, ht, hu => by rw [plT] at hu; cases hu
theorem eqpvs_iff : ∀ (ts us : List Th), plTs ts = true → plTs us = true → (eqPVs (pvTs ts) (pvTs us) = true ↔ ts = us)
  | [], [], _, _ => by rw [pvTs, eqPVs]; simp
  | [], y :: ys, _, _ => by rw [pvTs, pvTs, eqPVs]; simp
  | x :: xs, [], _, _ => by rw [pvTs, pvTs, eqPVs]; simp
  | x :: xs, y :: ys, ht, hu => by
    rw [plTs, Bool.and_eq_true] at ht hu
    rw [pvTs, pvTs, eqPVs, Bool.and_eq_true, eqpv_iff x y ht.1 hu.1, eqpvs_iff xs ys ht.2 hu.2]
    simp
end
section
variable {X : Cx}
/-- == and != of two trees: the same tree or not -/
def rSame (neg : Bool) (n : Nat) (mk : List Th → Th) : R2 := fun x y H Q => ∃ ts us, IsTh H x (mk ts) ∧ IsTh H y (mk us) ∧ plTs ts = true ∧ plTs us = true ∧ dps ts ≤ n ∧ dps us ≤ n ∧ (ts = us → Q (.bl (!neg)) H) ∧ (ts ≠ us → Q (.bl neg) H)
theorem same_of {n : Nat} {ts us : List Th} {Q : V → Hp → Prop} {H : Hp} {b neg : Bool} (p1 : plTs ts = true) (p2 : plTs us = true) (q1 : ts = us → Q (.bl (!neg)) H) (q2 : ts ≠ us → Q (.bl neg) H) (e : b = if neg then !eqPVs (pvTs ts) (pvTs us) else eqPVs (pvTs ts) (pvTs us)) : Q (.bl b) H := by
  have hi := eqpvs_iff ts us p1 p2
  by_cases z : ts = us
  · rw [hi.mpr z] at e
    have : b = !neg := by rw [e]; cases neg <;> rfl
    rw [this]
    exact q1 z
  · have hf : eqPVs (pvTs ts) (pvTs us) = false := by
      cases h : eqPVs (pvTs ts) (pvTs us) with
      | false => rfl
      | true => exact absurd (hi.mp h) z
    rw [hf] at e
    have : b = neg := by rw [e]; cases neg <;> rfl
    rw [this]
    exact q2 z
theorem op_eqTh {K : PySem.W.Frag} (hK : X.K = K) (n : Nat) (hu : X.A.units + (n + 1) < cLine) : OpR X (compareOp .Eq) (rSame false n .tup) := by
  subst hK
  intro pins s σ H x y v u Q I rx ry h
  obtain ⟨ts, us, hx, hy, p1, p2, d1, d2, q1, q2⟩ := h
  obtain ⟨a, vs, rfl, ha, hvs⟩ := th_tup hx
  obtain ⟨b, ws, rfl, hb, hws⟩ := th_tup hy
  exact op_eq_tup n hu pins s σ H _ _ v u Q I rx ry ⟨a, b, vs, ws, _, _, rfl, rfl, SqT.of ha, pvs_of hvs n p1 d1, SqT.of hb, pvs_of hws n p2 d2, same_of (n := n) (neg := false) p1 p2 q1 q2 rfl⟩
theorem op_neTh {K : PySem.W.Frag} (hK : X.K = K) (n : Nat) (hu : X.A.units + (n + 1) < cLine) : OpR X (compareOp .NotEq) (rSame true n .tup) := by
  subst hK
  intro pins s σ H x y v u Q I rx ry h
  obtain ⟨ts, us, hx, hy, p1, p2, d1, d2, q1, q2⟩ := h
  obtain ⟨a, vs, rfl, ha, hvs⟩ := th_tup hx
  obtain ⟨b, ws, rfl, hb, hws⟩ := th_tup hy
  exact op_ne_tup n hu pins s σ H _ _ v u Q I rx ry ⟨a, b, vs, ws, _, _, rfl, rfl, SqT.of ha, pvs_of hvs n p1 d1, SqT.of hb, pvs_of hws n p2 d2, same_of (n := n) (neg := true) p1 p2 q1 q2 rfl⟩
/-- != of two lists of trees -/
theorem op_neLs {K : PySem.W.Frag} (hK : X.K = K) (n : Nat) (hu : X.A.units + (n + 1) < cLine) : OpR X (compareOp .NotEq) (rSame true n .lst) := by
  subst hK
  intro pins s σ H x y v u Q I rx ry h
  obtain ⟨ts, us, hx, hy, p1, p2, d1, d2, q1, q2⟩ := h
  obtain ⟨a, vs, rfl, ha, hvs⟩ := th_lst hx
  obtain ⟨b, ws, rfl, hb, hws⟩ := th_lst hy
  cases rx
  cases ry
  obtain ⟨its, v1, pl, _⟩ := I.list (SqL.of ha)
  obtain ⟨its2, v2, pl2, _⟩ := I.list (SqL.of hb)
  have r := pvs_of (K := X.K) hvs n p1 d1
  have r' := pvs_of (K := X.K) hws n p2 d2
  obtain ⟨e1, e2⟩ := tupEq (A := X.A.in1) I r r' v1 v2 (fun hx hy rx ry => eqAt_PV I n X.A.in1 (by show X.A.units + 1 + n < cLine; omega) hx hy rx ry)
  have hl1 := v1.length
  have hl2 := v2.length
  by_cases hs : its.length = its2.length
  · refine SeqAt.RcNeAt.lists pl.isList pl2.isList (by simp only [List.size_toArray]; exact hs) (by omega) e1 X.prog X.w _ _ ?_
    refine fin_bl I (same_of (n := n) (neg := true) p1 p2 q1 q2 rfl) ?_
    show (!eqPVs (pvTs ts) (pvTs us)) = _
    rw [← e2]
    simp [hs]
  · refine SeqAt.RcNeAt.lists_lengths pl.isList pl2.isList (by simp only [List.size_toArray, bne_iff_ne]; exact hs) (by omega) X.prog X.w _ _ ?_
    refine fin_bl I (same_of (n := n) (neg := true) p1 p2 q1 q2 rfl) ?_
    show (!eqPVs (pvTs ts) (pvTs us)) = _
    rw [← e2]
    simp [hs]
end
/-- d.setdefault(k, x) -/
def tDSetd (td ty tx : TE) : TE := fun σ H Q => td σ H fun x H1 => ∃ a, x = .ref a ∧ IsD H1 a ∧ ty σ H1 fun y H2 => tx σ H2 fun z H3 => ∃ kvs k, H3 a = some (.dK kvs) ∧ y = kV k ∧ kvs.length < sizeLine ∧
  (∀ v, valV kvs k = some v → Q v H3) ∧ (valV kvs k = none → Q z (upd H3 a (.dK (putK kvs k z))))
section
variable {X : Cx} {o e f : Expr} {apos cpos : Pos} {td ty tx : TE}
theorem pe_dsetd (ho : PE X o td) (he : PE X e ty) (hf : PE X f tx) (m : M2 X o "setdefault" apos e f cpos) : PE X (.Call (.Attribute o "setdefault" apos) [e, f] [] cpos) (tDSetd td ty tx) := by
  intro pins s σ H Q I h
  refine wpAny_Call_method m.base m.few m.line PySem.F.plainAttrs_dict PySem.F.slot_dict_setdefault PySem.F.type_dict_setdefault (thn (ho pins s σ H _ I h) fun u s1 ⟨x, H1, I1, rx, a, ex, d, q1⟩ => ?_)
  subst ex
  obtain rfl : u = Value.ref a := rx
  obtain ⟨t1, t2, _⟩ := isD_at I1 d
  refine ⟨t1, t2, ?_⟩
  rw [m.trees]
  refine Calls.callWith_builtin rfl (Calls.evalArgs_plain (Calls.spliced_cons (thn (he pins s1 σ H1 _ I1 q1) fun iv s2 ⟨y, H2, I2, ry, q2⟩ =>
    Calls.spliced_cons (thn (hf pins s2 σ H2 _ I2 q2) fun fv s3 ⟨z, H3, I3, rz, kvs, k, ea, ey, hl, q3, q4⟩ => Calls.spliced_nil ?_))))
  subst ey
  obtain ⟨hz, hd, vs, rel, dd⟩ := dk_of I3.hok ea
  refine call_meetsIn PySem.F.slot_dict_setdefault dd.typeIs PySem.F.entry_dict_setdefault (PySem.F.args_dict_setdefault_3 _ _ _) (kt_meets_setdefault (mixKind X.prog X.w) a (kV_is ry) hd fv) ⟨vs, dd, by rw [← rel.length]; exact hz, fun v' hv => ?_, fun hn h' dd' hs => ?_⟩
  · cases l : valV kvs k with
    | none => 
      have hn : valueAt vs k = none := RelO.none_of (by rw [← l]; exact rel.val k)
      rw [hn] at hv
      cases hv
    | some v =>
      obtain ⟨w', hw, rw'⟩ := RelO.some_of (v := v) (o := valueAt vs k) (by rw [← l]; exact rel.val k)
      rw [hw] at hv
      cases hv
      exact ⟨v, H3, I3.tok _, rw', q3 v l⟩
  · have l : valV kvs k = none := by
      cases l : valV kvs k with
      | none => rfl
      | some v =>
        obtain ⟨w', hw, rw'⟩ := RelO.some_of (v := v) (o := valueAt vs k) (by rw [← l]; exact rel.val k)
        rw [hw] at hn
        cases hn
    have he : ∃ q, h'.get? a = some q := let ⟨q, _, _, hq, _⟩ := dd'; ⟨q, hq⟩
    have hl' : (putK kvs k z).length ≤ sizeLine := by have := length_putK kvs k z; omega
    exact ⟨z, _, d_write I3 (by rw [ea]; exact True.intro) hs he (dk_new hl' hd (rel.put k rz) dd'), rz, q4 l⟩
end
end L2

set_option Elab.async false
set_option linter.all false
set_option maxRecDepth 100000
set_option maxHeartbeats 4000000
namespace L2
open PySem PySem.Spec PyProof.Rows
theorem mix_int {P : Program} {w : World} {i : Int} {v : Value} (h : (mixKind P w).is (.inl i) v = true) : ∃ t, v = .int i t := by
  exact Value.isInt_shape (k := i) (v := v) h
theorem ints_of : ∀ (ns : List Int) (vs : List Value), vs.length = ns.length → (∀ (j : Nat) (v : Value) (n : Int), vs[j]? = some v → ns[j]? = some n → ∃ t, v = .int n t) → IntsAre vs ns := by
  intro ns
  induction ns with
  | nil =>
    intro vs hl _
    rw [List.eq_nil_of_length_eq_zero hl]
    exact .nil
  | cons n ns ih =>
    intro vs hl h
    match vs, hl with
    | v :: vs, hl =>
      obtain ⟨t, rfl⟩ := h 0 v n rfl rfl
      exact .cons n t (ih vs (by simpa using hl) fun j u m hu hm => h (j + 1) u m (by simpa using hu) (by simpa using hm))
section
variable {P : Program} {w : World} {A : Around} {E : Value → Shared → Prop} {s : Shared}
theorem sorted_dict {d : Addr} {kvs : List (Key × Value)} {ns : List Int} {Q : Value → Shared → Prop} (hh : A.handled = none) (lo : (d == sysModules) = false) (dd : s.heap.DictOf (mixKind P w) d kvs) (hk : kvs.map (·.1) = ns.map .inl) (h64 : ns.length < 64)
    (h : ∀ (h0 h' : Heap) (tk : Nat) (out : List Value) (ns' : List Int) (e : Nat), IntsAre out ns' → ns'.Perm ns → ns'.Pairwise (· ≤ ·) → h'.get? h0.objs.size = some (seqObj "list" out.toArray e) →
      (∀ b o, s.heap.get? b = some o → h0.get? b = some o) → (∀ b o, h0.get? b = some o → h'.get? b = some o) → Q (.ref h0.objs.size) { s with heap := h', toks := tk }) : wpAny (model P w) A (call (.builtin "sorted") [.ref d]) Q E s := by
  obtain ⟨ep, hat⟩ := dd.dictAt
  have hlen : kvs.length = ns.length := by
    have := congrArg List.length hk
    simpa using this
  refine Calls.call_function_entry kind_sorted plain_sorted entry_sorted (args_sorted1 _) ?_
  unfold Builtin.«sorted»
  refine wpAny_bind (m := checkCount "sorted" 1 1 _) (wpAny_pure ?_)
  have lz : kvs.length ≤ sizeLine := by
    rw [sizeLine_eq]
    omega
  refine wpAny_bind (W.kdu_collect (A := A.in1) (W.kdl_dict (knd := mixKind P w) (kvs := kvs) (ep := ep) lo) hh hat lz fun h0 tk acc hk0 hacc => ?_)
  have hl : acc.toList.length = kvs.length := by rw [Array.length_toList]; exact hacc.1
  have hi : IntsAre acc.toList ns := by
    refine ints_of ns acc.toList (by omega) fun j v n hv hn => ?_
    obtain ⟨k, x, hx, hq⟩ := hacc.2 j v (by rw [← Array.getElem?_toList]; exact hv)
    have e : (kvs.map (·.1))[j]? = some k := by rw [List.getElem?_map, hx]; rfl
    rw [hk, List.getElem?_map, hn] at e
    cases e
    exact mix_int hq
  refine wpAny_bind (wpAny_newList ?_ (by rw [hl]; exact lz))
  have g0 : (h0.push (seqObj "list" acc.toList.toArray 0)).get? h0.objs.size = some (seqObj "list" acc.toList.toArray 0) := Heap.get?_push_size _ rfl
  show wpAny _ _ _ _ _ { s with heap := h0.push (seqObj "list" acc.toList.toArray 0), toks := tk }
  refine wpAny_bind (wpAny_holding (wpAny_call_entry slot_list_sort ⟨_, g0, rfl⟩ entry_list_sort (list_sort_tree (s := { s with heap := h0.push (seqObj "list" acc.toList.toArray 0), toks := tk }) g0 hi (by omega) fun out ns' a1 a2 a3 => ⟨_, rfl, ?_⟩) (args_list_sort _)))
  obtain ⟨e, he⟩ := sortedHeap_at (out := out) g0
  refine wpAny_pure ⟨_, rfl, h h0 _ tk out.toList ns' e a1 a2 a3 he hk0 fun b o z => ?_⟩
  have z1 : (h0.push (seqObj "list" acc.toList.toArray 0)).get? b = some o := Heap.get?_push_of_some _ z
  rw [sortedHeap_old (Nat.ne_of_lt (Heap.lt_size z)) (Heap.lt_size z1)]
  exact z1
end
section
variable {X : Cx}
/-- sorted(d) of a dict whose keys are ints -/
theorem call_sorted_dict (hc : X.calm = true) : CallR X (.builtin "sorted") (fun xs H Q => ∃ (p : Addr) (kvs : List (Key × V)) (ks : List Int), xs = [.ref p] ∧ H p = some (.dK kvs) ∧ kvs.map (·.1) = ks.map .inl ∧ ks.length < 64 ∧
    ∀ (ns : List Int) a, ns.Perm ks → ns.Pairwise (· ≤ ·) → H a = none → Q (.ref a) (upd H a (.lst (ns.map V.int)))) := by
  intro pins s σ H xs us Q I r h
  obtain ⟨p, kvs, ks, rfl, hp, hks, hz, q⟩ := h
  obtain ⟨u, rfl, rx⟩ := vals1 r
  cases rx
  obtain ⟨z, hd, vs, rel, dd⟩ := dk_of I.hok hp
  refine sorted_dict (I.ok.hd hc) hd dd (by rw [← hks]; exact (KV.keys rel).symm) hz fun h0 h' tk out ns e hi pm srt g k1 k2 => ?_
  have ln : (ns.map V.int).length ≤ sizeLine := by
    rw [List.length_map, pm.length_eq, sizeLine_eq]
    omega
  have I1 : Inv X pins σ H { s with heap := h0, toks := tk } := I.kept (t' := tk) k1
  exact ⟨.ref h0.objs.size, _, I1.laid (t' := tk) k2 (Nat.le_refl _) (show ObjOk X.prog X.w _ h' _ (.lst (ns.map V.int)) from ⟨ln, out, e, rel_ints hi, g⟩), rfl, q ns _ pm srt (I1.hok.fresh (Nat.le_refl _))⟩
end
end L2

set_option Elab.async false
set_option linter.all false
set_option maxRecDepth 100000
set_option maxHeartbeats 4000000
namespace L2
open PySem PySem.Spec PyProof.Rows PySem.Builtin PySem.AutoSeq1
/-! ### list(zip(t, u)) of two tuples of one length -/
abbrev ZipF (h : Heap) (z TI TO : Addr) (f0 f1 : Value) : Prop := h.get? z = some { cls := .type "zip", dict := none, data := .fields #[f0, f1, .bool false, .ref TI, .ref TO], slots := #[] }
structure ZAt (h : Heap) (z TI TO i1 i2 t1 t2 : Addr) (xs ys : Array Value) (i : Nat) : Prop where
  z : ∃ f0 f1, (f0 = .none ∨ ∃ a t, f0 = .int a t) ∧ ZipF h z TI TO f0 f1
  ti : IsPair h TI (.ref i1) (.ref i2)
  to : ∃ a b, IsPair h TO a b
  g1 : h.IsTupleIter i1 t1 i
  g2 : h.IsTupleIter i2 t2 i
  u1 : h.IsTuple t1 xs
  u2 : h.IsTuple t2 ys
theorem tupExt {h h' : Heap} {b t : Addr} {xs : Array Value} (x : h.IsTuple t xs) (hs : Heap.ExtBut b h h') (hb : t ≠ b) : h'.IsTuple t xs := by
  obtain ⟨o, q1, q2⟩ := x
  exact ⟨o, hs _ _ hb q1, q2⟩
section
variable {prog : Program} {w : World} {A : Around} {E : Value → Shared → Prop} {s : Shared}
theorem wp_alive {M : Model} {a : Addr} {Q : Option Obj → Shared → Prop} (h : Q (s.heap.get? a) s) : wpAny M A (loadIfAlive a) Q E s := fun _ _ _ => h
/-- the tuple that is its own is free, or not -/
theorem zip_free {z TI TO : Addr} {f0 f1 : Value} {Q : Bool → Shared → Prop} (h0 : f0 = .none ∨ ∃ a t, f0 = .int a t) (hz : ZipF s.heap z TI TO f0 f1)
    (q1 : Q true s) (q2 : ∀ h' f1', ZipF h' z TI TO f0 f1' → h'.objs.size = s.heap.objs.size → Heap.ExtBut z s.heap h' → Q false { s with heap := h' }) : wpAny (model prog w) A (SmallTypes.ownedTupleIsFree (.ref z)) Q E s := by
  unfold SmallTypes.ownedTupleIsFree
  rcases h0 with rfl | ⟨a, t, rfl⟩
  · exact wpAny_bind (wpAny_field hz rfl (x := .none) rfl (wpAny_pure q1))
  · refine wpAny_bind (wpAny_field hz rfl (x := .int a t) rfl ?_)
    refine wpAny_bind (wp_alive ?_)
    refine wpAny_ite_split (fun _ => wpAny_pure q1) (fun _ => ?_)
    refine wpAny_bind (wpAny_field hz rfl (x := f1) rfl ?_)
    refine wpAny_ite_split (fun _ => ?_) (fun _ => ?_)
    · refine wpAny_bind (wpAny_setField_rec hz (by simp) fun h' hz' hs => wpAny_pure ?_)
      exact q2 h' (.bool true) hz' hs.1 hs.extBut
    · exact wpAny_pure (q2 s.heap f1 hz rfl fun _ _ _ e => e)
theorem zip_draw {z TI TO i1 i2 t1 t2 : Addr} {i : Nat} {xs ys : Array Value} {x y : Value} {Q : Value → Shared → Prop} (D : ZipApart z TI TO i1 i2 t1 t2) (Z : ZAt s.heap z TI TO i1 i2 t1 t2 xs ys i) (hx : xs[i]? = some x) (hy : ys[i]? = some y)
    (hQ : ∀ h' T, s.heap.objs.size ≤ T → ZAt h' z TI TO i1 i2 t1 t2 xs ys (i + 1) → IsPair h' T x y → (∀ c o, c ≠ z → c ≠ TO → c ≠ i1 → c ≠ i2 → s.heap.get? c = some o → h'.get? c = some o) → Q (.ref T) { s with heap := h' }) :
    wpAny (model prog w) A (Builtin.«zip.__next__» ⟨[.ref z], []⟩) (fun fin s' => ∃ v, fin = .done (.ret v) ∧ Q v s') E s := by
  obtain ⟨⟨f0, f1, h0, hz⟩, hTI, ⟨a, b, hTO⟩, h1, h2, hl1, hl2⟩ := Z
  show wpAny _ _ (field (.ref z) 2 >>= _) _ _ _
  refine wpAny_bind (wpAny_field hz rfl (x := .bool false) rfl ?_)
  show wpAny _ _ (field (.ref z) 3 >>= _) _ _ _
  refine wpAny_bind (wpAny_field hz rfl (x := .ref TI) rfl ?_)
  refine wpAny_bind (wpAny_seqItems hTI rfl ?_)
  show wpAny _ _ (Builtin.SmallTypes.ownedTupleIsFree (.ref z) >>= _) _ _ _
  refine wpAny_bind (zip_free h0 hz ?_ fun h₁ f1' hz₁ sz₁ hs₁ => ?_)
  · simp only [if_true]
    refine wpAny_bind (wpAny_rule ?_)
    refine wpAny_bind (wpAny_field hz rfl (x := .ref TO) rfl ?_)
    refine wpAny_bind (wpAny_setField_rec hz (by simp) fun h₁ hz₁ hs₁ => ?_)
    replace hz₁ : ZipF h₁ z TI TO .ellipsis f1 := hz₁
    refine wpAny_bind ?_
    simp only [List.zipIdx_cons, List.zipIdx_nil, List.forIn_cons, List.forIn_nil]
    refine wpAny_bind (wpAny_bind (wpAny_onRaise ?_))
    show wpAny _ _ (Builtin.SmallTypes.nextOf (.ref i1) >>= _) _ _ _
    refine wpAny_bind (drawT_item (h1.extBut hs₁.extBut D.i1z) (tupExt hl1 hs₁.extBut D.l1z) hx fun h₂ h1₂ hs₂ => wpAny_pure ?_)
    have hTO₂ : IsPair h₂ TO a b := hs₂.extBut _ _ D.TOi1 (hs₁.extBut _ _ D.TOz hTO)
    refine wpAny_bind (wpAny_seqItems hTO₂ rfl ?_)
    refine wpAny_bind (wpAny_updateSeq_pair hTO₂ fun h₃ hTO₃ hs₃ => ?_)
    replace hTO₃ : IsPair h₃ TO x b := hTO₃
    refine wpAny_bind (wpAny_letGo (wpAny_pure ?_))
    refine wpAny_bind (wpAny_bind (wpAny_onRaise ?_))
    show wpAny _ _ (Builtin.SmallTypes.nextOf (.ref i2) >>= _) _ _ _
    refine wpAny_bind (drawT_item (((h2.extBut hs₁.extBut D.i2z).extBut hs₂.extBut D.i12.symm).extBut hs₃.extBut D.TOi2.symm)
      (tupExt (tupExt (tupExt hl2 hs₁.extBut D.l2z) hs₂.extBut D.l2i1) hs₃.extBut D.l2TO) hy fun h₄ h2₄ hs₄ => wpAny_pure ?_)
    have hTO₄ : IsPair h₄ TO x b := hs₄.extBut _ _ D.TOi2 hTO₃
    refine wpAny_bind (wpAny_seqItems hTO₄ rfl ?_)
    refine wpAny_bind (wpAny_updateSeq_pair hTO₄ fun h₅ hTO₅ hs₅ => ?_)
    replace hTO₅ : IsPair h₅ TO x y := hTO₅
    refine wpAny_bind (wpAny_letGo (wpAny_pure (wpAny_pure ?_)))
    refine wpAny_bind (wpAny_seqItems hTO₅ rfl ?_)
    refine wpAny_bind (wpAny_newTuple ?_)
    have hsz : h₅.objs.size = s.heap.objs.size := by rw [hs₅.1, hs₄.1, hs₃.1, hs₂.1, hs₁.1]
    have hz₅ : ZipF h₅ z TI TO .ellipsis f1 := hs₅.extBut _ _ D.TOz.symm (hs₄.extBut _ _ D.i2z.symm (hs₃.extBut _ _ D.TOz.symm (hs₂.extBut _ _ D.i1z.symm hz₁)))
    have hk₅ : ∀ c o, c ≠ z → c ≠ TO → c ≠ i1 → c ≠ i2 → s.heap.get? c = some o → h₅.get? c = some o := fun c o c1 c2 c3 c4 e =>
      hs₅.extBut _ _ c2 (hs₄.extBut _ _ c4 (hs₃.extBut _ _ c2 (hs₂.extBut _ _ c3 (hs₁.extBut _ _ c1 e))))
    have h1₅ : h₅.IsTupleIter i1 t1 (i + 1) := ((h1₂.extBut hs₃.extBut D.TOi1.symm).extBut hs₄.extBut D.i12).extBut hs₅.extBut D.TOi1.symm
    have h2₅ : h₅.IsTupleIter i2 t2 (i + 1) := h2₄.extBut hs₅.extBut D.TOi2.symm
    have hzlt : z < h₅.objs.size := Heap.lt_size hz₅
    show wpAny _ _ (Builtin.SmallTypes.ownedTupleHandOut (.ref z) (.ref h₅.objs.size) >>= _) _ _ _
    refine wpAny_bind ?_
    unfold Builtin.SmallTypes.ownedTupleHandOut
    have hz₆ : ZipF (h₅.push { cls := .type "tuple", data := .seq #[x, y] }) z TI TO .ellipsis f1 := Heap.get?_push_of_some _ hz₅
    refine wpAny_bind (wpAny_setField_rec hz₆ (by simp) fun h₇ hz₇ hs₇ => ?_)
    replace hz₇ : ZipF h₇ z TI TO (rawInt h₅.objs.size) f1 := hz₇
    refine wpAny_setField_rec hz₇ (by simp) fun h₈ hz₈ hs₈ => ?_
    replace hz₈ : ZipF h₈ z TI TO (rawInt h₅.objs.size) (.bool false) := hz₈
    have up : ∀ c o, c ≠ z → h₅.get? c = some o → h₈.get? c = some o := fun c o c1 e => hs₈.extBut _ _ c1 (hs₇.extBut _ _ c1 (Heap.get?_push_of_some _ e))
    have hT₈ : IsPair h₈ h₅.objs.size x y := hs₈.extBut _ _ (Nat.ne_of_gt hzlt) (hs₇.extBut _ _ (Nat.ne_of_gt hzlt) (Heap.get?_push_size _ rfl))
    have al : ∀ c o, c ≠ z → c ≠ TO → c ≠ i1 → c ≠ i2 → s.heap.get? c = some o → h₈.get? c = some o := fun c o c1 c2 c3 c4 e => up c o c1 (hk₅ c o c1 c2 c3 c4 e)
    refine wpAny_pure ⟨_, rfl, hQ h₈ h₅.objs.size (Nat.le_of_eq hsz.symm) ⟨⟨_, _, .inr ⟨_, _, rfl⟩, hz₈⟩, al _ _ D.TIz D.TITO D.TIi1 D.TIi2 hTI, ⟨_, _, up _ _ D.TOz hTO₅⟩, h1₅.at fun o e => up _ o D.i1z e, h2₅.at fun o e => up _ o D.i2z e, ?_, ?_⟩ hT₈ al⟩
    · obtain ⟨o, e1, e2⟩ := hl1
      exact ⟨o, al _ _ D.l1z D.l1TO D.l1i1 D.l1i2 e1, e2⟩
    · obtain ⟨o, e1, e2⟩ := hl2
      exact ⟨o, al _ _ D.l2z D.l2TO D.l2i1 D.l2i2 e1, e2⟩
  · simp only [Bool.false_eq_true, if_false]
    refine wpAny_bind ?_
    simp only [List.forIn_toArray, List.forIn_cons, List.forIn_nil]
    refine wpAny_bind (wpAny_bind (wpAny_holding ?_))
    show wpAny _ _ (Builtin.SmallTypes.nextOf (.ref i1) >>= _) _ _ _
    refine wpAny_bind (drawT_item (z := { s with heap := h₁ }) (h1.extBut hs₁ D.i1z) (tupExt hl1 hs₁ D.l1z) hx fun h₂ h1₂ hs₂ => wpAny_pure ?_)
    refine wpAny_pure ?_
    refine wpAny_bind (wpAny_bind (wpAny_holding ?_))
    show wpAny _ _ (Builtin.SmallTypes.nextOf (.ref i2) >>= _) _ _ _
    refine wpAny_bind (drawT_item (z := { s with heap := h₂ }) ((h2.extBut hs₁ D.i2z).extBut hs₂.extBut D.i12.symm) (tupExt (tupExt hl2 hs₁ D.l2z) hs₂.extBut D.l2i1) hy fun h₃ h2₃ hs₃ => wpAny_pure ?_)
    refine wpAny_pure (wpAny_pure ?_)
    refine wpAny_bind (wpAny_newTuple ?_ (by show 2 ≤ sizeLine; decide))
    have hsz : h₃.objs.size = s.heap.objs.size := by rw [hs₃.1, hs₂.1]; exact sz₁
    have al : ∀ c o, c ≠ z → c ≠ i1 → c ≠ i2 → s.heap.get? c = some o → (h₃.push { cls := .type "tuple", data := .seq #[x, y] }).get? c = some o := fun c o c1 c3 c4 e =>
      Heap.get?_push_of_some _ (hs₃.extBut _ _ c4 (hs₂.extBut _ _ c3 (hs₁ _ _ c1 e)))
    have u3 : ∀ c o, h₃.get? c = some o → (h₃.push { cls := .type "tuple", data := .seq #[x, y] }).get? c = some o := fun c o e => Heap.get?_push_of_some _ e
    refine wpAny_pure ⟨_, rfl, hQ _ h₃.objs.size (Nat.le_of_eq hsz.symm) ⟨⟨_, _, h0, u3 _ _ (hs₃.extBut _ _ D.i2z.symm (hs₂.extBut _ _ D.i1z.symm hz₁))⟩, al _ _ D.TIz D.TIi1 D.TIi2 hTI, ⟨_, _, al _ _ D.TOz D.TOi1 D.TOi2 hTO⟩, (h1₂.extBut hs₃.extBut D.i12).at fun o e => u3 _ o e, h2₃.at fun o e => u3 _ o e, ?_, ?_⟩ (Heap.get?_push_size _ rfl) fun c o c1 _ c3 c4 e => al c o c1 c3 c4 e⟩
    · obtain ⟨o, e1, e2⟩ := hl1
      exact ⟨o, al _ _ D.l1z D.l1i1 D.l1i2 e1, e2⟩
    · obtain ⟨o, e1, e2⟩ := hl2
      exact ⟨o, al _ _ D.l2z D.l2i1 D.l2i2 e1, e2⟩
theorem zip_over {z TI TO i1 i2 t1 t2 : Addr} {i : Nat} {xs ys : Array Value} {Q : Fin → Shared → Prop} (hh : A.handled = none) (D : ZipApart z TI TO i1 i2 t1 t2) (Z : ZAt s.heap z TI TO i1 i2 t1 t2 xs ys i) (hx : xs[i]? = none)
    (hE : ∀ h' e, (∀ c o, c ≠ z → c ≠ TO → c ≠ i1 → c ≠ i2 → s.heap.get? c = some o → h'.get? c = some o) → (∃ o, h'.get? e = some o ∧ o.cls = .type "StopIteration") → E (.ref e) { s with heap := h' }) :
    wpAny (model prog w) A (Builtin.«zip.__next__» ⟨[.ref z], []⟩) Q E s := by
  obtain ⟨⟨f0, f1, h0, hz⟩, hTI, ⟨a, b, hTO⟩, h1, h2, hl1, hl2⟩ := Z
  show wpAny _ _ (field (.ref z) 2 >>= _) _ _ _
  refine wpAny_bind (wpAny_field hz rfl (x := .bool false) rfl ?_)
  show wpAny _ _ (field (.ref z) 3 >>= _) _ _ _
  refine wpAny_bind (wpAny_field hz rfl (x := .ref TI) rfl ?_)
  refine wpAny_bind (wpAny_seqItems hTI rfl ?_)
  show wpAny _ _ (Builtin.SmallTypes.ownedTupleIsFree (.ref z) >>= _) _ _ _
  refine wpAny_bind (zip_free h0 hz ?_ fun h₁ f1' hz₁ sz₁ hs₁ => ?_)
  · simp only [if_true]
    refine wpAny_bind (wpAny_rule ?_)
    refine wpAny_bind (wpAny_field hz rfl (x := .ref TO) rfl ?_)
    refine wpAny_bind (wpAny_setField_rec hz (by simp) fun h₁ hz₁ hs₁ => ?_)
    replace hz₁ : ZipF h₁ z TI TO .ellipsis f1 := hz₁
    refine wpAny_bind ?_
    simp only [List.zipIdx_cons, List.zipIdx_nil, List.forIn_cons, List.forIn_nil]
    refine wpAny_bind (wpAny_bind (wpAny_onRaise ?_))
    show wpAny _ _ (Builtin.SmallTypes.nextOf (.ref i1) >>= _) _ _ _
    refine wpAny_bind (drawT_end hh (h1.extBut hs₁.extBut D.i1z) (tupExt hl1 hs₁.extBut D.l1z) hx fun h₂ e hs₂ he => ?_)
    obtain ⟨oe, hoe, hce⟩ := he
    have hz₂ : ZipF h₂ z TI TO .ellipsis f1 := hs₂ _ _ D.i1z.symm hz₁
    have hez : e ≠ z := fun x => by subst x; rw [hz₂] at hoe; cases hoe; simp at hce
    refine wpAny_setField_rec hz₂ (by simp) fun h₃ _ hs₃ => hE h₃ e (fun c o c1 _ c3 _ x => hs₃.extBut _ _ c1 (hs₂ _ _ c3 (hs₁.extBut _ _ c1 x))) ⟨oe, hs₃.extBut _ _ hez hoe, hce⟩
  · simp only [Bool.false_eq_true, if_false]
    refine wpAny_bind ?_
    simp only [List.forIn_toArray, List.forIn_cons, List.forIn_nil]
    refine wpAny_bind (wpAny_bind (wpAny_holding ?_))
    show wpAny _ _ (Builtin.SmallTypes.nextOf (.ref i1) >>= _) _ _ _
    refine wpAny_bind (drawT_end (z := { s with heap := h₁ }) hh (h1.extBut hs₁ D.i1z) (tupExt hl1 hs₁ D.l1z) hx fun h₂ e hs₂ he => ?_)
    exact hE h₂ e (fun c o c1 _ c3 _ x => hs₂ _ _ c3 (hs₁ _ _ c1 x)) he
theorem next_zip {z TI TO i1 i2 t1 t2 : Addr} {i : Nat} {xs ys : Array Value} {x y : Value} {Q : Option Value → Shared → Prop} (D : ZipApart z TI TO i1 i2 t1 t2) (Z : ZAt s.heap z TI TO i1 i2 t1 t2 xs ys i) (hx : xs[i]? = some x) (hy : ys[i]? = some y)
    (hQ : ∀ h' T, s.heap.objs.size ≤ T → ZAt h' z TI TO i1 i2 t1 t2 xs ys (i + 1) → IsPair h' T x y → (∀ c o, c ≠ z → c ≠ TO → c ≠ i1 → c ≠ i2 → s.heap.get? c = some o → h'.get? c = some o) → Q (some (.ref T)) { s with heap := h' }) :
    wpAny (model prog w) A (pyNext (.ref z)) Q E s := by
  have hT : s.TypeIs (.ref z) "zip" := by obtain ⟨f0, f1, _, hz⟩ := Z.z; exact ⟨_, hz, rfl⟩
  unfold pyNext
  exact wpAny_bind (wpAny_attempt (wpAny_callSpecial?_slot (name := Str.ofString "__next__") hT F.slot_zip_next
    (wpAny_call_entry F.slot_zip_next hT F.entry_zip_next
      (zip_draw D Z hx hy fun h' T a1 a2 a3 a4 => wpAny_pure (hQ h' T a1 a2 a3 a4)) (F.args_zip_next_1 _))))
theorem next_over {z TI TO i1 i2 t1 t2 : Addr} {i : Nat} {xs ys : Array Value} {Q : Option Value → Shared → Prop} (hh : A.handled = none) (D : ZipApart z TI TO i1 i2 t1 t2) (Z : ZAt s.heap z TI TO i1 i2 t1 t2 xs ys i) (hx : xs[i]? = none)
    (hQ : ∀ h', (∀ c o, c ≠ z → c ≠ TO → c ≠ i1 → c ≠ i2 → s.heap.get? c = some o → h'.get? c = some o) → Q none { s with heap := h' }) : wpAny (model prog w) A (pyNext (.ref z)) Q E s := by
  have hT : s.TypeIs (.ref z) "zip" := by obtain ⟨f0, f1, _, hz⟩ := Z.z; exact ⟨_, hz, rfl⟩
  unfold pyNext
  refine wpAny_bind (wpAny_attempt (wpAny_callSpecial?_slot (name := Str.ofString "__next__") hT F.slot_zip_next
    (wpAny_call_entry F.slot_zip_next hT F.entry_zip_next (zip_over hh D Z hx fun h' e hk he => ?_) (F.args_zip_next_1 _))))
  obtain ⟨o, ho, hc⟩ := he
  refine wpAny_bind (wpAny_isInstance (T := "StopIteration") (b := true) ⟨o, ho, hc⟩ isSubtype_stop ?_)
  exact wpAny_pure (hQ _ hk)
end
end L2

set_option Elab.async false
set_option linter.all false
set_option maxRecDepth 100000
set_option maxHeartbeats 4000000
namespace L2
open PySem PySem.Spec PyProof.Rows PySem.Builtin PySem.AutoSeq1
abbrev zH1 (h : Heap) (l1 : Addr) : Heap := h.push { cls := .type "tuple_iterator", data := .fields #[.ref l1, .int 0 0] }
abbrev zH2 (h : Heap) (l1 l2 : Addr) : Heap := (zH1 h l1).push { cls := .type "tuple_iterator", data := .fields #[.ref l2, .int 0 0] }
abbrev zH3 (h : Heap) (l1 l2 : Addr) : Heap := (zH2 h l1 l2).push { cls := .type "tuple", data := .seq #[.ref h.objs.size, .ref (zH1 h l1).objs.size] }
abbrev zH4 (h : Heap) (l1 l2 : Addr) : Heap := (zH3 h l1 l2).push { cls := .type "tuple", data := .seq #[.none, .none] }
abbrev zH5 (h : Heap) (l1 l2 : Addr) : Heap := (zH4 h l1 l2).push { cls := .type "zip", data := .fields #[.none, .bool false, .bool false, .ref (zH2 h l1 l2).objs.size, .ref (zH3 h l1 l2).objs.size] }
theorem tupPush {h : Heap} {t : Addr} {xs : Array Value} (x : h.IsTuple t xs) (o : Obj) : (h.push o).IsTuple t xs := by
  obtain ⟨q, q1, q2⟩ := x
  exact ⟨q, Heap.get?_push_of_some _ q1, q2⟩
theorem zip_newT (l1 l2 : Addr) (xs ys : Array Value) :
    Meets (Builtin.«zip.__new__» ⟨[.type "zip", .ref l1, .ref l2], []⟩) (fun _ R s => s.heap.IsTuple l1 xs ∧ s.heap.IsTuple l2 ys ∧
      R (.ok (.ret (.ref (zH4 s.heap l1 l2).objs.size))) { s with heap := zH5 s.heap l1 l2 }) :=
  .of_wp fun prog w A R s h => by
    obtain ⟨hp, g, d, tk, os⟩ := s; obtain ⟨hl1, hl2, h⟩ := h
    have hsub := sub_zip
    have hL1 : Heap.IsTuple (Shared.heap ⟨hp, g, d, tk, os⟩) l1 xs := hl1
    have hL2 : Heap.IsTuple (Shared.heap ⟨hp.push { cls := .type "tuple_iterator", data := .fields #[.ref l1, .int 0 0] }, g, d, tk, os⟩) l2 ys := tupPush hl2 _
    wp_walk using wpAny_pyIter_tuple hL1, wpAny_pyIter_tuple hL2
    exact ⟨_, rfl, h⟩
section
variable {prog : Program} {w : World} {A : Around} {E : Value → Shared → Prop} {s : Shared}
theorem call_zipT {l1 l2 : Addr} {xs ys : Array Value} {Q : Value → Shared → Prop} (hl1 : s.heap.IsTuple l1 xs) (hl2 : s.heap.IsTuple l2 ys)
    (h : ∀ h', ZAt h' (s.heap.objs.size + 4) (s.heap.objs.size + 2) (s.heap.objs.size + 3) s.heap.objs.size (s.heap.objs.size + 1) l1 l2 xs ys 0 → ZipApart (s.heap.objs.size + 4) (s.heap.objs.size + 2) (s.heap.objs.size + 3) s.heap.objs.size (s.heap.objs.size + 1) l1 l2 →
      (∀ c o, s.heap.get? c = some o → h'.get? c = some o) → Q (.ref (s.heap.objs.size + 4)) { s with heap := h' }) :
    wpAny (model prog w) A (call (.type "zip") [.ref l1, .ref l2]) Q E s := by
  refine callType_new F.called_zip (by decide) (F.typeCall_zip_2 _ _) (F.newCall_zip_2 _ _) (fun obj => F.args_object_init_3 obj _ _) F.entry_zip_new
    (zip_newT l1 l2 xs ys) ⟨hl1, hl2, ?_⟩
  have z1 : (zH1 s.heap l1).objs.size = s.heap.objs.size + 1 := Heap.size_push ..
  have z2 : (zH2 s.heap l1 l2).objs.size = s.heap.objs.size + 2 := by rw [Heap.size_push, z1]
  have z3 : (zH3 s.heap l1 l2).objs.size = s.heap.objs.size + 3 := by rw [Heap.size_push, z2]
  have z4 : (zH4 s.heap l1 l2).objs.size = s.heap.objs.size + 4 := by rw [Heap.size_push, z3]
  have g5 : (zH5 s.heap l1 l2).get? (zH4 s.heap l1 l2).objs.size = some _ := Heap.get?_push_size _ rfl
  have g4 : (zH5 s.heap l1 l2).get? (zH3 s.heap l1 l2).objs.size = some _ := Heap.get?_push_of_some _ (Heap.get?_push_size _ rfl)
  have g3 : (zH5 s.heap l1 l2).get? (zH2 s.heap l1 l2).objs.size = some _ := Heap.get?_push_of_some _ (Heap.get?_push_of_some _ (Heap.get?_push_size _ rfl))
  have g2 : (zH5 s.heap l1 l2).get? (zH1 s.heap l1).objs.size = some _ := Heap.get?_push_of_some _ (Heap.get?_push_of_some _ (Heap.get?_push_of_some _ (Heap.get?_push_size _ rfl)))
  have g1 : (zH5 s.heap l1 l2).get? s.heap.objs.size = some _ := Heap.get?_push_of_some _ (Heap.get?_push_of_some _ (Heap.get?_push_of_some _ (Heap.get?_push_of_some _ (Heap.get?_push_size _ rfl))))
  show _ ∧ _
  rw [z2, z3, z4] at g5
  rw [z1, z2] at g3
  rw [z3] at g4
  rw [z1] at g2
  rw [z4]
  have kp : ∀ c o, s.heap.get? c = some o → (zH5 s.heap l1 l2).get? c = some o := fun c o x =>
    Heap.get?_push_of_some _ (Heap.get?_push_of_some _ (Heap.get?_push_of_some _ (Heap.get?_push_of_some _ (Heap.get?_push_of_some _ x))))
  have lt : ∀ {t xs}, s.heap.IsTuple t xs → t < s.heap.objs.size := fun ⟨_, e, _⟩ => Heap.lt_size e
  refine ⟨⟨_, g5, rfl⟩, h _ ⟨⟨_, _, .inl rfl, g5⟩, g3, ⟨_, _, g4⟩, ⟨_, g1, rfl, rfl⟩, ⟨_, g2, rfl, rfl⟩, ?_, ?_⟩ (zipApart_new (lt hl1) (lt hl2)) kp⟩
  · obtain ⟨o, e1, e2⟩ := hl1; exact ⟨o, kp _ _ e1, e2⟩
  · obtain ⟨o, e1, e2⟩ := hl2; exact ⟨o, kp _ _ e1, e2⟩
theorem no_zip_len : typeLookup (.type "zip") "__len__" = pure none := by rw [typeLookup_type, builtinLookup_eq_fast]; kernel_rfl
theorem no_zip_hint : typeLookup (.type "zip") "__length_hint__" = pure none := by rw [typeLookup_type, builtinLookup_eq_fast]; kernel_rfl
theorem hint_zip {z : Addr} {Q : Bool → Shared → Prop} (hT : s.TypeIs (.ref z) "zip") (h : Q true s) : wpAny (model prog w) A (List.listLengthHint (.ref z)) Q E s := by
  unfold List.listLengthHint
  refine wpAny_bind (wpAny_specialOf hT no_zip_len ?_)
  dsimp only
  rw [if_neg (by decide +kernel)]
  rw [if_neg (by decide +kernel)]
  refine wpAny_bind (wpAny_specialOf hT no_zip_hint ?_)
  exact wpAny_pure h
end
end L2

set_option Elab.async false
set_option linter.all false
set_option maxRecDepth 100000
set_option maxHeartbeats 4000000
namespace L2
open PySem PySem.Spec PyProof.Rows PySem.Builtin PySem.AutoSeq1
/-- what list(zip(..)) leaves -/
structure Zipd (H : Hp) (l : Addr) (xs ys : List V) (i : Nat) (H' : Hp) : Prop where
  same : ∀ b o, b ≠ l → H b = some o → H' b = some o
  ps : ∃ ps : List Addr, ps.length = i ∧ H' l = some (.lst (ps.map V.ref)) ∧ ∀ (j : Nat) (p : Addr), ps[j]? = some p → p ≠ l ∧ ∃ x y, xs[j]? = some x ∧ ys[j]? = some y ∧ H' p = some (.tup [x, y])
section
variable {X : Cx} {pins : List (Addr × Obj)} {σ : St}
theorem zip_loop {H0 : Hp} {S z TI TO i1 i2 t1 t2 : Addr} {xs ys : List V} {us ws : List Value} (hc : X.calm = true) {A : Around} (hA : A.handled = none) (D : ZipApart z TI TO i1 i2 t1 t2) (v1 : Vals xs us) (v2 : Vals ys ws) (hl : xs.length = ys.length) (hz : xs.length ≤ sizeLine)
    (nS : S ≠ z ∧ S ≠ TO ∧ S ≠ i1 ∧ S ≠ i2 ∧ S ≠ TI ∧ S ≠ t1 ∧ S ≠ t2) {R : Result → Shared → Prop} (hR : ∀ s' H', Inv X pins σ H' s' → Zipd H0 S xs ys xs.length H' → R (.ok (.ret .none)) s') :
    ∀ (k i : Nat) (s : Shared) (H : Hp), xs.length - i = k → i ≤ xs.length → Inv X pins σ H s → (∀ b ∈ [z, TO, i1, i2], FpOk X pins H b) → ZAt s.heap z TI TO i1 i2 t1 t2 us.toArray ws.toArray i → Zipd H0 S xs ys i H →
      codeAny (model X.prog X.w) A (.builtin "list.extend.loop" ⟨[.ref S, .ref z, .none], []⟩) R s := by
  have l1 := v1.length
  have l2 := v2.length
  intro k
  induction k with
  | zero =>
    intro i s H hk hi I hf Z zp
    have hin : i = xs.length := by omega
    subst hin
    refine codeAny_builtin F.entry_extend_loop ?_
    rw [Around.under_plainId F.plain_extend_loop _]
    show wpAny _ A.in1 (pyNext (.ref z) >>= _) _ _ s
    refine wpAny_bind (next_over (A := A.in1) hA D Z (by simp; omega) fun h' kk => ?_)
    refine wpAny_pure (hR _ H (I.turnedL (t' := s.toks) (ch := [z, TO, i1, i2]) (fun b o hb e => ?_) hf) zp)
    simp only [List.mem_cons, List.not_mem_nil, or_false, not_or] at hb
    exact kk b o hb.1 hb.2.1 hb.2.2.1 hb.2.2.2 e
  | succ k ih =>
    intro i s H hk hi I hf Z zp
    have hlt : i < xs.length := by omega
    have e1 : xs[i]? = some xs[i] := List.getElem?_eq_getElem hlt
    have e2 : ys[i]? = some (ys[i]'(by omega)) := List.getElem?_eq_getElem (by omega)
    obtain ⟨u1, f1, r1⟩ := v1.get e1
    obtain ⟨u2, f2, r2⟩ := v2.get e2
    refine codeAny_builtin F.entry_extend_loop ?_
    rw [Around.under_plainId F.plain_extend_loop _]
    show wpAny _ A.in1 (pyNext (.ref z) >>= _) _ _ s
    refine wpAny_bind (next_zip (A := A.in1) D Z (x := u1) (y := u2) (by simp [f1]) (by simp [f2]) fun h' T hT Z' hp kk => ?_)
    have nT : H T = none := I.hok.fresh hT
    have I1 : Inv X pins σ (upd H T (.tup [xs[i], ys[i]'(by omega)])) { s with heap := h', toks := s.toks } := by
      refine I.turnedLaid (a := T) (ch := [z, TO, i1, i2]) (fun b o hb e => ?_) hf hT ⟨by show 2 ≤ sizeLine; decide, [u1, u2], .cons r1 (.cons r2 .nil), ?_⟩
      · simp only [List.mem_cons, List.not_mem_nil, or_false, not_or] at hb
        exact kk b o hb.1 hb.2.1 hb.2.2.1 hb.2.2.2 e
      · exact ⟨_, hp, rfl, _, rfl⟩
    obtain ⟨sm, ps, pl, hS, pj⟩ := zp
    have hTS : S ≠ T := fun q => by rw [q, nT] at hS; cases hS
    have hS1 : upd H T (.tup [xs[i], ys[i]'(by omega)]) S = some (.lst (ps.map V.ref)) := by rw [upd_ne hTS]; exact hS
    obtain ⟨zz, its, n, rv, hll, hget⟩ := I1.lstM hS1
    have hl3 : its.length = i := by rw [← hll, List.length_map, pl]
    show wpAny _ A.in1 (updateSeq S (·.push (.ref T)) >>= _) _ _ _
    refine wpAny_bind ?_
    refine wpAny_updateSeq hget rfl (wpAny_pure ⟨plainId_quiet F.plain_extend_loop _, ?_⟩) (by rw [List.size_toArray]; omega) (by show (its.toArray.push (.ref T)).size ≤ sizeLine + 1; rw [Array.size_push, List.size_toArray]; omega)
    have I2 := I1.lset (ys := ps.map V.ref ++ [.ref T]) (t' := s.toks) (f := fun x => x.push (.ref T)) (its' := its ++ [.ref T]) hS1 hget (by simp) (rv.append (.cons (show RelV (.ref T) (Value.ref T) from rfl) .nil)) (by rw [List.length_append, List.length_map, pl]; show i + 1 ≤ sizeLine; omega)
    have kz : ∀ b o, b ≠ S → h'.get? b = some o → (h'.update S (Obj.mapSeq fun x => x.push (.ref T))).get? b = some o := fun b o hb e => (Heap.get?_update_other _ _ (Ne.symm hb)).trans e
    refine ih (i + 1) _ _ (by omega) hlt I2 (fun b hb => ?_) ?_ ?_
    · have q := hf b hb
      refine ⟨?_, q.2⟩
      have hbS : b ≠ S := fun z => by rw [z] at q; rw [q.1] at hS; cases hS
      have hbT : b ≠ T := fun y => by
        have lt : b < s.heap.objs.size := by
          simp only [List.mem_cons, List.not_mem_nil, or_false] at hb
          rcases hb with rfl | rfl | rfl | rfl
          · obtain ⟨_, _, _, e⟩ := Z.z; exact Heap.lt_size e
          · obtain ⟨_, _, e⟩ := Z.to; exact Heap.lt_size e
          · obtain ⟨_, e, _⟩ := Z.g1; exact Heap.lt_size e
          · obtain ⟨_, e, _⟩ := Z.g2; exact Heap.lt_size e
        exact absurd (Nat.lt_of_lt_of_le lt hT) (by rw [y]; exact Nat.lt_irrefl _)
      rw [upd_ne hbS, upd_ne hbT]
      exact q.1
    · obtain ⟨⟨f0, f1, h0, hz'⟩, hTI, ⟨a, b, hTO⟩, g1, g2, ul1, ul2⟩ := Z'
      refine ⟨⟨f0, f1, h0, kz _ _ nS.1.symm hz'⟩, kz _ _ nS.2.2.2.2.1.symm hTI, ⟨a, b, kz _ _ nS.2.1.symm hTO⟩, g1.at fun o e => kz _ o nS.2.2.1.symm e, g2.at fun o e => kz _ o nS.2.2.2.1.symm e, ?_, ?_⟩
      · obtain ⟨o, q1, q2⟩ := ul1; exact ⟨o, kz _ _ nS.2.2.2.2.2.1.symm q1, q2⟩
      · obtain ⟨o, q1, q2⟩ := ul2; exact ⟨o, kz _ _ nS.2.2.2.2.2.2.symm q1, q2⟩
    · refine ⟨fun b o hb e => ?_, ps ++ [T], by rw [List.length_append, pl]; rfl, by rw [upd_same, List.map_append]; rfl, fun j p hj => ?_⟩
      · have := sm b o hb e
        rw [upd_ne hb, upd_ne (ne_of_none this nT)]
        exact this
      · by_cases hji : j < ps.length
        · rw [List.getElem?_append_left hji] at hj
          obtain ⟨np, x, y, a1, a2, a3⟩ := pj j p hj
          refine ⟨np, x, y, a1, a2, ?_⟩
          rw [upd_ne np, upd_ne (ne_of_none a3 nT)]
          exact a3
        · rw [List.getElem?_append_right (by omega)] at hj
          have hj0 : j - ps.length = 0 := by
            cases q : j - ps.length with
            | zero => rfl
            | succ m => rw [q] at hj; simp at hj
          rw [hj0] at hj
          have hp' : T = p := by simpa using hj
          subst hp'
          have hji' : j = i := by omega
          subst hji'
          exact ⟨hTS.symm, _, _, e1, e2, by rw [upd_ne hTS.symm, upd_same]⟩
theorem list_zip {H : Hp} {s : Shared} {z TI TO i1 i2 t1 t2 : Addr} {xs ys : List V} {us ws : List Value} {Q : VK} {E : Value → Shared → Prop} (hc : X.calm = true) (D : ZipApart z TI TO i1 i2 t1 t2) (v1 : Vals xs us) (v2 : Vals ys ws) (hl : xs.length = ys.length) (hz : xs.length ≤ sizeLine)
    (I : Inv X pins σ H s) (hf : ∀ b ∈ [z, TO, i1, i2], FpOk X pins H b) (Z : ZAt s.heap z TI TO i1 i2 t1 t2 us.toArray ws.toArray 0) (q : ∀ l H', H l = none → Zipd H l xs ys xs.length H' → Q (.ref l) H') :
    wpAny (model X.prog X.w) X.A (call (.type "list") [.ref z]) (EP X pins σ Q) E s := by
  refine callType_codes (Q₁ := fun obj s₁ => obj = .ref s.heap.objs.size ∧ s₁ = { s with heap := s.heap.push { cls := .type "list", data := .seq #[] } }) F.called_list (F.typeCall_list_1 _) F.entry_list_init
    (code_list_new _ ⟨rfl, rfl⟩) fun obj s₁ h₁ => ?_
  obtain ⟨rfl, rfl⟩ := h₁
  have hS : (s.heap.push { cls := .type "list", data := .seq #[] }).get? s.heap.objs.size = some { cls := .type "list", data := .seq #[] } := Heap.get?_push_size _ rfl
  have nH : H s.heap.objs.size = none := I.fresh
  obtain ⟨⟨f0, f1, h0, hz'⟩, hTI, ⟨a, b, hTO⟩, g1, g2, ul1, ul2⟩ := Z
  have ne : ∀ {c o}, s.heap.get? c = some o → s.heap.objs.size ≠ c := fun e => Nat.ne_of_gt (Heap.lt_size e)
  have nS : s.heap.objs.size ≠ z ∧ s.heap.objs.size ≠ TO ∧ s.heap.objs.size ≠ i1 ∧ s.heap.objs.size ≠ i2 ∧ s.heap.objs.size ≠ TI ∧ s.heap.objs.size ≠ t1 ∧ s.heap.objs.size ≠ t2 := by
    obtain ⟨o1, e1, _⟩ := g1
    obtain ⟨o2, e2, _⟩ := g2
    obtain ⟨o3, e3, _⟩ := ul1
    obtain ⟨o4, e4, _⟩ := ul2
    exact ⟨ne hz', ne hTO, ne e1, ne e2, ne hTI, ne e3, ne e4⟩
  have key : ∀ (h : Heap) (c : Nat), (∀ b o, b ≠ s.heap.objs.size → s.heap.get? b = some o → h.get? b = some o) → h.get? s.heap.objs.size = some { cls := .type "list", data := .seq #[] c } →
      codeAny (model X.prog X.w) X.A.in1 (.builtin "list.extend.loop" ⟨[.ref s.heap.objs.size, .ref z, .none], []⟩) (wants (fun r s₂ => r = .none ∧ EP X pins σ Q (.ref s.heap.objs.size) s₂) E) { s with heap := h } := by
    intro h c kp hg
    have kq : ∀ b o, s.heap.get? b = some o → h.get? b = some o := fun b o e => kp b o (ne e).symm e
    have I1 : Inv X pins σ (upd H s.heap.objs.size (.lst [])) { s with heap := h, toks := s.toks } := I.laid kq (Nat.le_refl _) ⟨Nat.zero_le _, [], c, .nil, hg⟩
    refine zip_loop (H0 := H) hc (A := X.A.in1) (I.ok.hd hc) D v1 v2 hl hz nS (fun s' H' I' zp => ⟨rfl, .ref s.heap.objs.size, H', I', rfl, q _ _ nH zp⟩) _ 0 { s with heap := h } _ rfl (Nat.zero_le _) I1 (fun b hb => ?_) ?_ ?_
    · have y := hf b hb
      refine ⟨?_, y.2⟩
      rw [upd_ne (fun e => ?_)]
      · exact y.1
      · simp only [List.mem_cons, List.not_mem_nil, or_false] at hb
        rcases hb with rfl | rfl | rfl | rfl
        · exact nS.1 e.symm
        · exact nS.2.1 e.symm
        · exact nS.2.2.1 e.symm
        · exact nS.2.2.2.1 e.symm
    · refine ⟨⟨f0, f1, h0, kq _ _ hz'⟩, kq _ _ hTI, ⟨a, b, kq _ _ hTO⟩, g1.at fun o e => kq _ o e, g2.at fun o e => kq _ o e, ?_, ?_⟩
      · obtain ⟨o, q1, q2⟩ := ul1; exact ⟨o, kq _ _ q1, q2⟩
      · obtain ⟨o, q1, q2⟩ := ul2; exact ⟨o, kq _ _ q1, q2⟩
    · refine ⟨fun b o hb e => by rw [upd_ne hb]; exact e, [], rfl, by rw [upd_same]; rfl, fun j p hj => by simp at hj⟩
  have oth : ∀ (f : Array Value → Array Value) (h : Heap) b o, b ≠ s.heap.objs.size → h.get? b = some o → (h.update s.heap.objs.size (Obj.mapSeq f)).get? b = some o :=
    fun f h b o hb e => (Heap.get?_update_other _ _ (Ne.symm hb)).trans e
  refine ⟨⟨_, hS, rfl⟩, F.args_list_init_2 _ _, ?_⟩
  show wpAny _ X.A.in1.in1 (do let old ← Builtin.List.listItems (.ref s.heap.objs.size); Builtin.List.listUpdate (.ref s.heap.objs.size) (fun _ => #[]); letGo old.toList.reverse; Builtin.List.listExtendWith (.ref s.heap.objs.size) (.ref z) .none) _ _ _
  refine wpAny_bind ?_
  unfold Builtin.List.listItems
  refine wpAny_bind (wpAny_seqItems hS rfl (wpAny_pure ?_))
  show wpAny _ X.A.in1.in1 (updateSeq s.heap.objs.size (fun _ => #[]) >>= fun _ => letGo (#[] : Array Value).toList.reverse >>= fun _ => Builtin.List.listExtendWith (.ref s.heap.objs.size) (.ref z) .none) _ _ _
  refine wpAny_bind (wpAny_updateSeq hS rfl ?_)
  have hS₂ := Heap.get?_update_self (Obj.mapSeq (fun _ => (#[] : Array Value))) hS rfl
  refine wpAny_bind (wpAny_letGo ?_)
  have hzip : ((s.heap.push { cls := .type "list", data := .seq #[] }).update s.heap.objs.size (Obj.mapSeq (fun _ => (#[] : Array Value)))).get? z = some _ := oth _ _ _ _ nS.1.symm (Heap.get?_push_of_some _ hz')
  unfold Builtin.List.listExtendWith
  refine wpAny_bind (wpAny_typeOf (T := "zip") ⟨_, hzip, rfl⟩ ?_)
  have h1 : Builtin.List.listSameRef (.ref s.heap.objs.size) (.ref z) = false := by simp [Builtin.List.listSameRef, nS.1]
  rw [if_neg (by rw [h1]; decide)]
  refine wpAny_bind (PySem.wpAny_pyIter_slot (T := "zip") ⟨_, hzip, rfl⟩ F.slot_zip_iter (wpAny_call_entry F.slot_zip_iter ⟨_, hzip, rfl⟩ F.entry_zip_iter (wpAny_pure ⟨_, rfl, "zip", _, ⟨_, hzip, rfl⟩, F.slot_zip_next.lookup, ?_⟩) (F.args_zip_iter_1 _)))
  refine wpAny_bind (wpAny_holding (hint_zip ⟨_, hzip, rfl⟩ ?_))
  refine wpAny_ite_split (fun _ => ?_) (fun z => absurd rfl z)
  refine wpAny_bind (wpAny_rule ?_)
  refine wpAny_bind ?_
  show wpAny _ _ (updateSeq s.heap.objs.size (·.push .none) >>= fun _ => updateSeq s.heap.objs.size (·.pop)) _ _ _
  refine wpAny_bind (wpAny_updateSeq hS₂ rfl ?_)
  have hS₃ := Heap.get?_update_self (Obj.mapSeq (·.push Value.none)) hS₂ rfl
  refine wpAny_updateSeq (hz := by seq_fits) hS₃ rfl ?_
  have hS₄ := Heap.get?_update_self (Obj.mapSeq (·.pop)) hS₃ rfl
  exact wpAny_pure ⟨plainId_quiet PySem.F.plain_extend_loop _, key _ _ (fun b o hb e => oth _ _ _ _ hb (oth _ _ _ _ hb (oth _ _ _ _ hb (Heap.get?_push_of_some _ e)))) hS₄⟩
end
end L2

set_option Elab.async false
set_option linter.all false
set_option maxRecDepth 100000
set_option maxHeartbeats 4000000
namespace L2
open PySem PySem.Spec PyProof.Rows PySem.Builtin PySem.AutoSeq1
/-- list(zip(t, u)), two tuples of one length -/
def tLZip (K : PySem.W.Frag) (ta : TA) : TE := fun σ H Q => ta σ H fun vs H1 => ∃ a b xs ys, vs = [.ref a, .ref b] ∧ SqT K H1 a xs ∧ SqT K H1 b ys ∧ xs.length = ys.length ∧ ∀ l H', H1 l = none → Zipd H1 l xs ys xs.length H' → Q (.ref l) H'
section
variable {X : Cx}
theorem pe_lzip {a b : Expr} {ta : TA} {p q pos pos2 : Pos} (hc : X.calm = true) (hg1 : Gl X "list") (hm1 : X.mg "list" = none) (hg2 : Gl X "zip") (hm2 : X.mg "zip" = none) (ha : PA X [a, b] ta) (he : starEach [a, b] X.env = (false, eval a X.env) :: starEach [b] X.env := by rfl)
    (hpl : (backTo pos2 (starEach [b] X.env)).any (·.1) = false := by rfl) (hs : starEach [.Call (.Name "zip" q) [a, b] [] pos2] X.env = [(false, eval (.Call (.Name "zip" q) [a, b] [] pos2) X.env)] := by rfl) :
    PE X (.Call (.Name "list" p) [.Call (.Name "zip" q) [a, b] [] pos2] [] pos) (tLZip X.K ta) := by
  intro pins s σ H Q I h
  refine wpAny_Call_Name_kw (ld_blt I hg1 hm1 (by decide +kernel : bootBuiltins "list" = some (.type "list")) ?_)
  refine PyProof.Rows.callWith_type1 ?_ (by rw [hs]; rfl) rfl
  rw [hs]
  show wpAny _ _ (spliced [(false, eval (.Call (.Name "zip" q) [a, b] [] pos2) X.env)]) _ _ s
  refine Calls.spliced_cons ?_
  refine wpAny_Call_Name_kw (ld_blt I hg2 hm2 (by decide +kernel : bootBuiltins "zip" = some (.type "zip")) ?_)
  refine PyProof.Rows.callWith_type1 (thn (ha pos2 pins s σ H _ I h) fun us s1 ⟨vs, H1, I1, r1, q1⟩ => ?_) he hpl
  obtain ⟨x, y, xs, ys, rfl, hx, hy, hl, q1⟩ := q1
  cases r1 with
  | cons r rr =>
    cases rr with
    | cons r' rr =>
      cases rr
      cases r
      cases r'
      obtain ⟨its, v1, pl, hz⟩ := I1.tuple hx
      obtain ⟨its2, v2, pl2, hz2⟩ := I1.tuple hy
      refine call_zipT (show s1.heap.IsTuple x its.toArray from pl) (show s1.heap.IsTuple y its2.toArray from pl2) fun h' Z D kk => ?_
      refine Calls.spliced_nil ?_
      have I2 : Inv X pins σ H1 { s1 with heap := h', toks := s1.toks } := I1.kept (t' := s1.toks) kk
      refine list_zip hc D v1 v2 hl hz I2 (fun b hb => ?_) Z q1
      have fr : s1.heap.objs.size ≤ b := by
        simp only [List.mem_cons, List.not_mem_nil, or_false] at hb
        rcases hb with rfl | rfl | rfl | rfl
        · exact Nat.le_add_right _ _
        · exact Nat.le_add_right _ _
        · exact Nat.le_refl _
        · exact Nat.le_add_right _ _
      exact I1.fpOk fr (I1.hok.fresh fr)
/-- l.index(i), an int that is there -/
def rIndex : V → List V → Hp → VK → Prop := fun x vs H Q => ∃ (l : Addr) (ns : List Int) (i : Int) (j : Nat), x = .ref l ∧ vs = [.int i] ∧ H l = some (.lst (ns.map V.int)) ∧ ns[j]? = some i ∧ (∀ m, m < j → ns[m]? ≠ some i) ∧ Q (.int (j : Nat)) H
theorem mt_index : MtR X "list.index" rIndex := by
  intro pins s σ H x vs v us Q I rx rv h
  obtain ⟨l, ns, i, j, rfl, rfl, hH, hj, hno, q⟩ := h
  cases rx
  obtain ⟨u, rfl, ru⟩ := rv.one
  obtain ⟨tk, rfl⟩ := ru
  obtain ⟨z, its, n, r, hl, e⟩ := I.lstM hH
  have hI := ints_rel r
  have hlen : its.length = ns.length := IntsAre.length hI
  have at' : ∀ (m : Nat) (y : Value), its[m]? = some y → ∃ k t, ns[m]? = some k ∧ y = .int k t := by
    intro m y hy
    have hm : m < ns.length := by
      rw [← hlen]
      exact (List.getElem?_eq_some_iff.mp hy).1
    obtain ⟨u2, f2, r2⟩ := r.get (i := m) (x := .int ns[m]) (by rw [List.getElem?_map, List.getElem?_eq_getElem hm]; rfl)
    rw [hy] at f2
    cases f2
    obtain ⟨t, rfl⟩ := r2
    exact ⟨_, t, List.getElem?_eq_getElem hm, rfl⟩
  have jl : j < its.length := by
    rw [hlen]
    exact (List.getElem?_eq_some_iff.mp hj).1
  have val : ∀ (m : Nat) (hm : m < its.toArray.size), ∃ k t, ns[m]? = some k ∧ its.toArray[m] = .int k t := fun m hm => by
    simp only [List.size_toArray] at hm
    obtain ⟨k, t, a1, a2⟩ := at' m its[m] (List.getElem?_eq_getElem hm)
    exact ⟨k, t, a1, by simpa using a2⟩
  have hsz : sizeLine = 16777216 := sizeLine_eq
  refine call_meets F.slot_list_index ⟨_, e, rfl⟩ F.entry_list_index (F.args_list_index_2 _ _) (SeqAt.list_indexAt l its.toArray n none #[] (.int i tk) (fun y => match y with | .int k _ => k == i | _ => false) j (by simpa using jl) (by
    rw [List.length_map] at z
    omega) ?_ ?_) ⟨e, ?_, ?_⟩
  · obtain ⟨k, t, a1, a2⟩ := val j (by simpa using jl)
    rw [a2]
    rw [hj] at a1
    cases a1
    exact beq_self_eq_true _
  · intro m hm hmj
    obtain ⟨k, t, a1, a2⟩ := val m hm
    rw [a2]
    show (k == i) = false
    rw [beq_eq_false_iff_ne]
    intro w
    subst w
    exact hno m hmj a1
  · intro y hy
    obtain ⟨m, hm, rfl⟩ := Array.mem_iff_getElem.mp hy
    obtain ⟨k, t, a1, a2⟩ := val m hm
    rw [a2]
    exact eqAt_V (y := .int k) (x := .int i) ⟨t, rfl⟩ ⟨tk, rfl⟩ rfl rfl
  · exact ⟨.int (j : Nat), H, I.tok _, ⟨_, rfl⟩, q⟩
end
end L2

set_option Elab.async false
set_option linter.all false
set_option maxRecDepth 100000
set_option maxHeartbeats 4000000
namespace K17
open PySem L2
def top (i : Nat) : Stmt := PySem.Challenge.pw_likepieces_k17_patterns_got.main.body.getD i (.Pass ⟨0, 0, 0, 0⟩)
abbrev sHead : Stmt := top 4
abbrev sParts : Stmt := top 5
abbrev sSteps : Stmt := top 6
abbrev sFlat : Stmt := top 7
abbrev sAlike : Stmt := top 9
abbrev sGot : Stmt := top 10
abbrev sFeed : Stmt := top 12
abbrev sDraw : Stmt := top 13
abbrev sLawValue : Stmt := top 14
abbrev sSpelled : Stmt := top 15
abbrev sName : Stmt := top 16
abbrev sNames : Stmt := top 17
abbrev sLawParts : Stmt := top 18
abbrev sWith : Stmt := top 19
abbrev sNodes : Stmt := top 20
abbrev sSame : Stmt := top 21
abbrev sWorld : Stmt := top 22
abbrev sLeaf : Stmt := top 23
abbrev sForm : Stmt := top 24
abbrev sDense : Stmt := top 25
abbrev sTurned : Stmt := top 26
abbrev sFill : Stmt := top 27
abbrev sClash : Stmt := top 28
abbrev sBent : Stmt := top 29
abbrev sTold : Stmt := top 30
abbrev sLaw : Stmt := top 31
structure TxtT (mg : Str → Option Value) : Prop where
  isi : mg "isinstance" = none
  int : mg "int" = none
  bl : mg "bool" = none
  tup : mg "tuple" = none
  len : mg "len" = none
/-- the parts of a node, a new tuple of them -/
def spParts : Sp := fun vs H Q _ => ∃ (H0 : Hp) (v : V) (ts : List Th), vs = [v] ∧ Same H0 H ∧ IsTh H0 v (.tup ts) ∧ ts.length ≤ 1000000 ∧
  ∀ (p : Addr) (ws : List V) H', Same H H' → H' p = some (.tup ws) → IsThs H0 ws (kidsL ts) → Q (.ref p) H'
/-- the fields of a node that are no tuples, a new tuple of them -/
def notTup (t : Th) : Bool := !isTup t
def leadL (ts : List Th) : List Th := ts.filter notTup
def spHead : Sp := fun vs H Q _ => ∃ (H0 : Hp) (v : V) (ts : List Th), vs = [v] ∧ Same H0 H ∧ IsTh H0 v (.tup ts) ∧ ts.length ≤ 1000000 ∧
  ∀ (p : Addr) (ws : List V) H', Same H H' → H' p = some (.tup ws) → IsThs H0 ws (leadL ts) → Q (.ref p) H'
section
variable {P : Program} {w : World} {K : PySem.W.Frag} {mg : Str → Option Value} {base : Heap}
theorem scParts : FnScope ["e"] ["e"] (defScope sParts) := ⟨rfl, rfl, rfl, by decide +kernel, rfl, by decide +kernel, by decide +kernel⟩
theorem ok_parts {f : Addr} {fd : FuncData} (F : Fun K "parts" "parts" sParts f fd) (T : TxtT mg) (KI : Kits K) : FnOk P w K mg base CX0 1 f fd ["e"] spParts := by
  refine F.ok scParts (fun vs H Q E h => ?_) (fun cdv A outer s H vs Q E hr h => ?_)
  · obtain ⟨H0, v, ts, rfl, _⟩ := h
    rfl
  · obtain ⟨H0, v, ts, rfl, s0, hv, hz, k⟩ := h
    refine ⟨_, pss_one (ps_ret (pe_callTy call_tuple_of (by rfl) T.tup (by decide +kernel) (pa_cons (pe_comp (N' := ["part"]) (src := [none]) rfl (compScope_of (defScope sParts) rfl ["e"] rfl (by decide +kernel)) (pi_tup (pv 0))
      (fun cl C ex s0' H0' => ⟨pg_name (i := 0) (nd1 _) rfl (Or.inl rfl), pts_one (pt_val (pe_callB (id := "isinstance") (call_isinstK (K := K) rfl) (by rfl) T.isi (by decide +kernel) (pa_n (pv 0) (pa_n (pe_bltn (v := .ty "tuple") (by rfl) T.tup (by decide +kernel) rfl) pa_nil)))), pv 0⟩)) pa_nil))), ?_⟩
    obtain ⟨a, xs, rfl, ha0, hts⟩ := th_tup hv
    have ha := s0 _ _ ha0
    have hl := IsThs.len _ hts
    refine ⟨_, rfl, a, rfl, ⟨_, SqT.of ha⟩, comp_tup (K := K) (a := a) (xs := xs) (fun i ys σc H' => ∃ o, σc = [o] ∧ IsThs H0 ys ((ts.take i).filter isTup) ∧ ys.length ≤ i ∧ H' = H) ⟨none, rfl, by rw [List.take_zero]; exact .nil, Nat.le_refl _, rfl⟩ (fun i ys σc H' ⟨_, _, _, _, e⟩ => by rw [e]; exact SqT.of ha) ?_ ?_⟩
    · rintro i x ys σc H' hx hi ⟨o, rfl, hys, hyl, rfl⟩
      obtain ⟨t, ht, h1⟩ := ths_get _ hts hx
      have hnext : (ts.take (i + 1)).filter isTup = (ts.take i).filter isTup ++ (if isTup t = true then [t] else []) := take_nextR _ ht
      refine ⟨by have : sizeLine = 16777216 := sizeLine_eq; omega, ?_⟩
      refine ⟨_, rfl, _, _, _, _, rfl, th_ty (IsTh.kp (Kp.of s0) h1), KI.tup h1, _, rfl, ite2 (fun g => ?_) (fun g => ?_)⟩
      · refine ⟨_, rfl, nx hi ⟨_, rfl, ?_, by rw [List.length_append]; show ys.length + 1 ≤ i + 1; omega, rfl⟩⟩
        rw [hnext, if_pos g]
        exact IsThs.app _ hys (.cons h1 .nil)
      · refine nx hi ⟨_, rfl, ?_, by omega, rfl⟩
        rw [hnext, if_neg g, List.append_nil]
        exact hys
    · rintro ys σc H' ⟨o, rfl, hys, hyl, rfl⟩ l hl'
      refine ⟨l, _, rfl, .inl ⟨SqL.of upd_same, fun p hp => ?_⟩⟩
      rw [List.take_of_length_le (by omega)] at hys
      have s2 := (same_upd (o := .lst ys) hl').trans (same_upd (o := .tup ys) hp)
      exact k p ys _ s2 upd_same hys
theorem scHead : FnScope ["node"] ["node"] (defScope sHead) := ⟨rfl, rfl, rfl, by decide +kernel, rfl, by decide +kernel, by decide +kernel⟩
theorem ok_head {f : Addr} {fd : FuncData} (F : Fun K "head" "head" sHead f fd) (T : TxtT mg) (KI : Kits K) : FnOk P w K mg base CX0 1 f fd ["node"] spHead := by
  refine F.ok scHead (fun vs H Q E h => ?_) (fun cdv A outer s H vs Q E hr h => ?_)
  · obtain ⟨H0, v, ts, rfl, _⟩ := h
    rfl
  · obtain ⟨H0, v, ts, rfl, s0, hv, hz, k⟩ := h
    refine ⟨_, pss_one (ps_ret (pe_callTy call_tuple_of (by rfl) T.tup (by decide +kernel) (pa_cons (pe_comp (N' := ["field"]) (src := [none]) rfl (compScope_of (defScope sHead) rfl ["node"] rfl (by decide +kernel)) (pi_tup (pv 0))
      (fun cl C ex s0 H0 => ⟨pg_name (i := 0) (nd1 _) rfl (Or.inl rfl), pts_one (pt_not (pt_val (pe_callB (id := "isinstance") (call_isinstK (K := K) rfl) (by rfl) T.isi (by decide +kernel) (pa_n (pv 0) (pa_n (pe_bltn (v := .ty "tuple") (by rfl) T.tup (by decide +kernel) rfl) pa_nil))))), pv 0⟩)) pa_nil))), ?_⟩
    obtain ⟨a, xs, rfl, ha0, hts⟩ := th_tup hv
    have ha := s0 _ _ ha0
    have hl := IsThs.len _ hts
    refine ⟨_, rfl, a, rfl, ⟨_, SqT.of ha⟩, comp_tup (K := K) (a := a) (xs := xs) (fun i ys σc H' => ∃ o, σc = [o] ∧ IsThs H0 ys ((ts.take i).filter notTup) ∧ ys.length ≤ i ∧ H' = H) ⟨none, rfl, by rw [List.take_zero]; exact .nil, Nat.le_refl _, rfl⟩ (fun i ys σc H' ⟨_, _, _, _, e⟩ => by rw [e]; exact SqT.of ha) ?_ ?_⟩
    · rintro i x ys σc H' hx hi ⟨o, rfl, hys, hyl, rfl⟩
      obtain ⟨t, ht, h1⟩ := ths_get _ hts hx
      have hnext : (ts.take (i + 1)).filter notTup = (ts.take i).filter notTup ++ (if notTup t = true then [t] else []) := take_nextR _ ht
      refine ⟨by have : sizeLine = 16777216 := sizeLine_eq; omega, ?_⟩
      refine ⟨_, rfl, _, _, _, _, rfl, th_ty (IsTh.kp (Kp.of s0) h1), KI.tup h1, _, rfl, ite2 (fun g => ?_) (fun g => ?_)⟩
      · refine ⟨_, rfl, nx hi ⟨_, rfl, ?_, by rw [List.length_append]; show ys.length + 1 ≤ i + 1; omega, rfl⟩⟩
        rw [hnext, if_pos (show notTup t = true from g)]
        exact IsThs.app _ hys (.cons h1 .nil)
      · refine nx hi ⟨_, rfl, ?_, by omega, rfl⟩
        rw [hnext, if_neg (show ¬ notTup t = true from g), List.append_nil]
        exact hys
    · rintro ys σc H' ⟨o, rfl, hys, hyl, rfl⟩ l hl'
      refine ⟨l, _, rfl, .inl ⟨SqL.of upd_same, fun p hp => ?_⟩⟩
      rw [List.take_of_length_le (by omega)] at hys
      have s2 := (same_upd (o := .lst ys) hl').trans (same_upd (o := .tup ys) hp)
      exact k p ys _ s2 upd_same hys
end
end K17

set_option Elab.async false
set_option linter.all false
set_option maxRecDepth 100000
set_option maxHeartbeats 4000000
namespace K17
open PySem L2
/-- the heap without two objects -/
def off (a b : Addr) (H : Hp) : Hp := fun c => if c = a ∨ c = b then none else H c
theorem off_sub {a b : Addr} {H : Hp} : Same (off a b H) H := fun c o e => by
  unfold off at e
  split at e
  · cases e
  · exact e
theorem off_in {a b c : Addr} {H : Hp} {o : HO} (h : H c = some o) (h1 : c ≠ a) (h2 : c ≠ b) : off a b H c = some o := by
  unfold off
  rw [if_neg (fun z => z.elim h1 h2)]
  exact h
theorem off_upd1 {a b : Addr} {H : Hp} {o : HO} : off a b (upd H a o) = off a b H := by
  funext c
  unfold off
  split
  · rfl
  · next h => rw [upd_ne (fun z => h (.inl z))]
theorem off_upd2 {a b : Addr} {H : Hp} {o : HO} : off a b (upd H b o) = off a b H := by
  funext c
  unfold off
  split
  · rfl
  · next h => rw [upd_ne (fun z => h (.inr z))]
theorem off_same {a b : Addr} {H H' : Hp} (s : Same H H') : Same (off a b H) (off a b H') := fun c o e => by
  unfold off at e ⊢
  split at e
  · cases e
  · next h => rw [if_neg h]; exact s c o e
theorem off_of {a b : Addr} {H0 H : Hp} (s : Same H0 H) (h1 : H0 a = none) (h2 : H0 b = none) : Same H0 (off a b H) := fun c o e => off_in (s c o e) (fun z => by rw [z, h1] at e; cases e) (fun z => by rw [z, h2] at e; cases e)
structure TxtD (mg : Str → Option Value) : Prop where
  node : ∃ tk, mg "NODE" = some (.str "node" tk)
  opened : ∃ tk, mg "OPENED" = some (.str "opened" tk)
  closed : ∃ tk, mg "CLOSED" = some (.str "closed" tk)
def spSteps (N : Nat) : Sp := fun vs H Q _ => ∃ (v : V) (t : Th), vs = [v] ∧ IsTh H v t ∧ OkT N t ∧ Th.sz t ≤ 100000 ∧
  ∀ (p : Addr) (ws : List V) H', Same H H' → H p = none → H' p = some (.lst ws) → IsThs H' ws ((stepsT t).map pr) → Q (.ref p) H'
mutual
theorem len_steps : ∀ t : Th, (stepsT t).length ≤ 3 * Th.sz t
  | .tup xs => by
    rw [stepsT, Th.sz, List.length_cons]
    have := len_inner (isLetT xs) (.tup xs) xs 0
    omega
  | .at _ => by simp [stepsT]
  | .lst _ => by simp [stepsT]
theorem len_inner (l : Bool) (me : Th) : ∀ (xs : List Th) (i : Nat), (innerT l me i xs).length ≤ 3 * szs xs + (2 - i)
  | [], i => by simp [innerT, szs]
  | x :: xs, i => by
    rw [innerT, szs]
    have h1 := len_steps x
    have hm : (markT l me i).length ≤ (2 - i) - (2 - (i + 1)) := by
      match i with
      | 0 => cases l <;> simp [markT]
      | 1 => cases l <;> simp [markT]
      | _ + 2 => simp [markT]
    split
    · have h2 := len_inner l me xs (i + 1)
      rw [List.length_append, List.length_append]
      omega
    · have h2 := len_inner l me xs i
      omega
end
end K17

set_option Elab.async false
set_option linter.all false
set_option maxRecDepth 100000
set_option maxHeartbeats 4000000
namespace K17
open PySem L2
/-- a stack or a walk in the heap -/
abbrev prs (l : List (Str × Th)) : List Th := l.map pr
theorem prs_last {H : Hp} {ws : List V} {st : List (Str × Th)} (h : IsThs H ws (prs st)) (hne : ws ≠ []) : ∃ ws' y st' d t a vn, ws = ws' ++ [y] ∧ st = st' ++ [(d, t)] ∧ IsThs H ws' (prs st') ∧ y = .ref a ∧ H a = some (.tup [.str d, vn]) ∧ IsTh H vn t := by
  obtain ⟨ws', y, us', u, e1, e2, h1, h2⟩ := ths_last ws h hne
  have hn : st ≠ [] := fun z => by
    subst z
    have := congrArg List.length e2
    simp [prs] at this
  obtain ⟨st', x, rfl⟩ : ∃ st' x, st = st' ++ [x] := ⟨st.dropLast, st.getLast hn, (List.dropLast_concat_getLast hn).symm⟩
  have e3 : prs (st' ++ [x]) = prs st' ++ [pr x] := by simp [prs]
  rw [e3] at e2
  have e4 := List.append_inj' e2 rfl
  obtain ⟨e5, e6⟩ := e4
  have e6' : pr x = u := by simpa using e6
  subst e6' e5
  obtain ⟨a, vs, rfl, ha, hvs⟩ := th_tup h2
  cases hvs with
  | cons c1 c2 =>
    cases c2 with
    | cons c3 c4 =>
      cases c4
      obtain ⟨rfl, _⟩ := th_at c1
      exact ⟨ws', _, st', x.1, x.2, a, _, e1, rfl, h1, rfl, ha, c3⟩
theorem small_deed {d : Str} (h : d = "node" ∨ d = "opened" ∨ d = "closed") : smallV (.str d) = true := by
  rcases h with rfl | rfl | rfl <;> decide +kernel
theorem at_head (v : V) (vs : List V) : atI (v :: vs) 0 = some v := atI_nat (j := 0) rfl
theorem at_next (u v : V) (vs : List V) : atI (u :: v :: vs) 1 = some v := atI_nat (j := 1) rfl
theorem steps_pos {n : Nat} {t : Th} (h : OkT n t) : 1 ≤ (stepsT t).length := by
  cases n with
  | zero => exact h.elim
  | succ n =>
    obtain ⟨w, ts, rfl, _⟩ := h
    rw [stepsT, List.length_cons]
    omega
/-- a stack's entries: which deeds, and nodes that are trees -/
def StOk (N : Nat) (p : Str × Th) : Prop := (p.1 = "node" ∨ p.1 = "opened" ∨ p.1 = "closed") ∧ OkT N p.2 ∧ Th.sz p.2 ≤ 100000
theorem todo_len {N : Nat} : ∀ (st : List (Str × Th)), (∀ x ∈ st, StOk N x) → st.length ≤ (todoT st).length := by
  intro st
  induction st with
  | nil => intro _; exact Nat.zero_le _
  | cons x st ih =>
    intro h
    have h1 := ih (fun y hy => h y (List.mem_cons_of_mem _ hy))
    have h2 : 1 ≤ (todo1 x).length := by
      unfold todo1
      split
      · exact steps_pos (h x (List.mem_cons_self ..)).2.1
      · exact Nat.le_refl _
    have e : todoT (x :: st) = todoT st ++ todo1 x := by unfold todoT; simp
    rw [e, List.length_append, List.length_cons]
    omega
theorem kids_cons (w : Str) (ts : List Th) : kidsL (.at (.str w) :: ts) = kidsL ts := rfl
theorem isLet_iff {w : Str} {ts : List Th} : isLetT (.at (.str w) :: ts) = decide (w = "let") := rfl
section
variable {P : Program} {w : World} {K : PySem.W.Frag} {mg : Str → Option Value} {base : Heap}
theorem scSteps : FnScope ["tree", "walk", "waiting", "deed", "node", "inner"] ["tree"] (defScope sSteps) := ⟨rfl, rfl, rfl, by decide +kernel, rfl, by decide +kernel, by decide +kernel⟩
theorem ok_steps {f fP : Addr} {fd dP : FuncData} (F : Fun K "steps" "steps" sSteps f fd) (T : TxtT mg) (TD : TxtD mg) (KI : Kits K)
    (FP : Fun K "parts" "parts" sParts fP dP) (bP : Binds K dP ["e"] []) (mP : mg "parts" = some (.ref fP)) (N : Nat) : FnOk P w K mg base CX0 2 f fd ["tree"] (spSteps N) := by
  have GP : FnOk P w K mg base CX0 1 fP dP ["e"] spParts := ok_parts FP T KI
  obtain ⟨tn, hNode⟩ := TD.node
  obtain ⟨to, hOpen⟩ := TD.opened
  obtain ⟨tc, hClose⟩ := TD.closed
  refine F.ok scSteps (fun vs H Q E h => ?_) (fun cdv A outer s H vs Q E hr h => ?_)
  · obtain ⟨v, t, rfl, _⟩ := h
    rfl
  · obtain ⟨v, t, rfl, ht, hok, hz, k⟩ := h
    have hsz : sizeLine = 16777216 := sizeLine_eq
    have hr1 : Room 1 _ := hr.mono (by decide)
    refine' ⟨?tt, ?body, ?fin⟩
    case body =>
      refine' pss_cons ?s1 (pss_cut ?s2 (pss_cons ?s3 (pss_one ?s4)))
      case s1 => exact ps_set (i := 1) scSteps.nd rfl (Or.inl rfl) (pe_lst pa_nil)
      case s2 => exact ps_set (i := 2) scSteps.nd rfl (Or.inl rfl) (pe_lst (pa_t (pe_tup (pa_n (pe_glob (v := .str "node") (by rfl) hNode ⟨tn, rfl⟩) (pa_n (pv 0) pa_nil))) pa_nil))
      case s3 =>
        refine' ps_while PassesOwn.never ?c (pss_cons ?b1 (pss_cut ?b2 (pss_one ?b3)))
        case c => exact pt_truth (pv 2) (fun _ => rfl)
        case b1 => exact ps_asg (pe_bm0 PySem.F.plainAttrs_list PySem.F.slot_list_pop PySem.F.type_list_pop mt_pop (pv 2)) (pg_tup rfl (pgs_cons (pg_name (i := 3) scSteps.nd rfl (Or.inl rfl)) (pgs_cons (pg_name (i := 4) scSteps.nd rfl (Or.inl rfl)) pgs_nil)))
        case b2 => exact ps_expr (pe_bm PySem.F.plainAttrs_list PySem.F.slot_list_append PySem.F.type_list_append mt_append (pv 1) (pa_t (pe_tup (pa_n (pv 3) (pa_n (pv 4) pa_nil))) pa_nil))
        case b3 =>
          refine' ps_if ?d (pss_cut ?c1 (pss_cut ?c2 (pss_one ?c3))) pss_nil
          case d => exact pt_cmpR op_eq (pv 3) (pe_glob (v := .str "node") (by rfl) hNode ⟨tn, rfl⟩) (nomark _)
          case c1 =>
            refine' ps_setComp (i := 5) (N' := ["part"]) (src := [none]) ?k1 ?k2 ?k3 ?k4 ?k5 ?k6 ?k7
            case k1 => rfl
            case k2 => exact scSteps.nd
            case k3 => rfl
            case k4 => exact Or.inl rfl
            case k5 => exact compScope_of (defScope sSteps) rfl ["tree", "walk", "waiting", "deed", "node", "inner"] rfl (by decide +kernel)
            case k6 => exact pi_tup (pe_call GP hr1 (by rfl) mP FP.kp bP .nil pass0 (pa_n (pv 4) pa_nil))
            case k7 => exact fun cl C ex s0 H0 => ⟨pg_name (i := 0) (nd1 _) rfl (Or.inl rfl), pts_nil, pe_tup (pa_n (pe_glob (v := .str "node") (by rfl) hNode ⟨tn, rfl⟩) (pa_n (pv 0) pa_nil))⟩
          case c2 =>
            refine' ps_if ?e (pss_one ?g) pss_nil
            case e => exact pt_cmpR op_eq (pe_ix ix_tup (pv 4) pe_int (fun _ _ => rfl)) pe_str (nomark _)
            case g => exact ps_set (i := 5) scSteps.nd rfl (Or.inl rfl) (pe_lst (pa_cons (pe_ix ix_list (pv 5) pe_int (fun _ _ => rfl)) (pa_t (pe_tup (pa_n (pe_glob (v := .str "opened") (by rfl) hOpen ⟨to, rfl⟩) (pa_n (pv 4) pa_nil))) (pa_cons (pe_ix ix_list (pv 5) pe_int (fun _ _ => rfl)) (pa_t (pe_tup (pa_n (pe_glob (v := .str "closed") (by rfl) hClose ⟨tc, rfl⟩) (pa_n (pv 4) pa_nil))) pa_nil)))))
          case c3 => exact ps_expr (pe_bm PySem.F.plainAttrs_list PySem.F.slot_list_extend PySem.F.type_list_extend mt_extend (pv 2) (pa_cons (pe_rev (pv 5) (pe_un un_neg pe_int)) pa_nil))
      case s4 => exact ps_ret (pv 1)
    case fin =>
      refine ⟨Nat.zero_le _, fun wk hwk => ?_⟩
      refine ⟨fun σ' H' => ∃ wt p0, σ' = [some v, some (.ref wk), some (.ref wt), none, none, none] ∧ wk ≠ wt ∧ H wt = none ∧ Same H H' ∧ H' wk = some (.lst []) ∧ H' wt = some (.lst [.ref p0]) ∧ H' p0 = some (.tup [.str "node", v]), ?_, ?_⟩
      · refine ⟨_, rfl, (by show 2 ≤ sizeLine; decide), fun p0 hp0 => ⟨(by show 1 ≤ sizeLine; decide), fun wt hwt => ?_⟩⟩
        have s1 := same_upd (o := .lst []) hwk
        have s2 := s1.trans (same_upd (o := .tup [.str "node", v]) hp0)
        have e1 : upd (upd H wk (.lst [])) p0 (.tup [.str "node", v]) wk = some (.lst []) := same_upd hp0 _ _ upd_same
        have s3 := same_upd (o := .lst [.ref p0]) hwt
        exact ⟨wt, p0, rfl, ne_of_none e1 hwt, same_none s2 hwt, s2.trans s3, s3 _ _ e1, upd_same, s3 _ _ upd_same⟩
      rintro σ0 H1 ⟨wt, p0, rfl, hkt, hwt, s1, L1, W1, P1⟩
      refine while_m (fun m σ H' => ∃ (ws wl : List V) (st dn : List (Str × Th)) (o3 o4 o5 : Option V), σ = [some v, some (.ref wk), some (.ref wt), o3, o4, o5] ∧ Same H H' ∧ H' wt = some (.lst ws) ∧ H' wk = some (.lst wl) ∧
          IsThs (off wk wt H') ws (prs st) ∧ IsThs (off wk wt H') wl (prs dn) ∧ dn ++ todoT st = stepsT t ∧ (∀ x ∈ st, StOk N x) ∧ m = (todoT st).length)
        (todoT [("node", t)]).length ⟨[.ref p0], [], [("node", t)], [], none, none, none, rfl, s1, W1, L1, ?_, .nil, ?_, ?_, rfl⟩ ?_ ?_
      · refine .cons (.tup (off_in P1 (ne_of P1 L1 (by intro q; cases q)) (ne_of P1 W1 (by intro q; cases q))) (.cons (.at (small_deed (.inl rfl))) (.cons (IsTh.kp (Kp.of (off_of s1 hwk hwt)) ht) .nil))) .nil
      · show todoT ([] ++ [(("node" : Str), t)]) = _
        rw [todo_snoc, todo1_node]
        show stepsT t ++ [] = _
        rw [List.append_nil]
      · intro x hx
        rw [List.mem_singleton] at hx
        subst hx
        exact ⟨.inl rfl, hok, hz⟩
      · rintro m σ H2 ⟨ws, wl, st, dn, o3, o4, o5, rfl, s2, W2, L2, hst, hdn, heq, hall, rfl⟩
        have hlt := len_steps t
        have hlen : dn.length + (todoT st).length = (stepsT t).length := by rw [← heq, List.length_append]
        have hstl := todo_len st hall
        refine ⟨_, rfl, _, .inl ⟨ws, SqL.of W2, rfl⟩, ?_⟩
        cases hws : ws.isEmpty with
        | true =>
          have e : ws = [] := List.isEmpty_iff.mp hws
          subst e
          refine iteF ?_
          have est : st = [] := by
            have := IsThs.len _ hst
            rw [List.length_map] at this
            exact List.eq_nil_of_length_eq_zero this.symm
          subst est
          have ed : dn = stepsT t := by rw [← heq]; show dn = dn ++ []; rw [List.append_nil]
          subst ed
          exact ⟨_, rfl, k wk wl H2 s2 hwk L2 (IsThs.kp (Kp.of off_sub) hdn)⟩
        | false =>
          have hne : ws ≠ [] := fun z => by rw [z] at hws; cases hws
          obtain ⟨ws', y, st', d, n, a, vn, rfl, rfl, hst', rfl, ha, hvn⟩ := prs_last hst hne
          refine iteT ?_
          refine ⟨_, rfl, .inl ⟨rfl, _, SqL.of W2⟩, wt, _, .ref a, rfl, rfl, W2, (by rw [List.length_append]; simp), ?_⟩
          rw [List.dropLast_concat]
          have hx := hall (d, n) (List.mem_append_right _ (List.mem_singleton.mpr rfl))
          have hall' : ∀ x ∈ st', StOk N x := fun x hx => hall x (List.mem_append_left _ hx)
          have hat : upd H2 wt (.lst ws') a = some (.tup [.str d, vn]) := by
            have h1 := off_sub _ _ ha
            rw [upd_ne (ne_of h1 W2 (by intro q; cases q))]
            exact h1
          refine ⟨a, [.str d, vn], rfl, SqT.of hat, rfl, _, _, rfl, _, _, rfl, rfl, ?_⟩
          refine ⟨fun σ' H' => ∃ (wl' : List V), σ' = [some v, some (.ref wk), some (.ref wt), some (.str d), some vn, o5] ∧ Same H H' ∧ H' wt = some (.lst ws') ∧ H' wk = some (.lst wl') ∧
            IsThs (off wk wt H') ws' (prs st') ∧ IsThs (off wk wt H') wl' (prs (dn ++ [(d, n)])) ∧ IsTh (off wk wt H') vn n, ?_, ?_⟩
          · have eo : off wk wt (upd H2 wt (.lst ws')) = off wk wt H2 := off_upd2
            have Lx : upd H2 wt (.lst ws') wk = some (.lst wl) := by rw [upd_ne hkt]; exact L2
            have Wx : upd H2 wt (.lst ws') wt = some (.lst ws') := upd_same
            have sx : Same H (upd H2 wt (.lst ws')) := fun b ob e => by rw [upd_ne (ne_of_none e hwt)]; exact s2 b ob e
            rw [← eo] at hst' hdn hvn
            generalize upd H2 wt (.lst ws') = H3 at Lx Wx sx hst' hdn hvn ⊢
            refine ⟨_, rfl, .inl ⟨rfl, _, SqL.of Lx⟩, _, rfl, _, rfl, (by show 2 ≤ sizeLine; decide), fun q hq => ?_⟩
            have sq := same_upd (o := .tup [.str d, vn]) hq
            have hqk : q ≠ wk := fun z => by rw [z, Lx] at hq; cases hq
            have hqt : q ≠ wt := fun z => by rw [z, Wx] at hq; cases hq
            have hll := IsThs.len _ hdn
            rw [List.length_map] at hll
            rw [List.length_append] at hstl
            simp only [List.length_singleton] at hstl
            refine ⟨wk, wl, .ref q, rfl, rfl, sq _ _ Lx, by omega, ?_⟩
            have so := off_same (a := wk) (b := wt) sq
            have eo2 : off wk wt (upd (upd H3 q (.tup [.str d, vn])) wk (.lst (wl ++ [.ref q]))) = off wk wt (upd H3 q (.tup [.str d, vn])) := off_upd1
            refine ⟨wl ++ [.ref q], rfl, ?_, ?_, upd_same, ?_, ?_, ?_⟩
            · intro b ob e
              rw [upd_ne (ne_of_none e hwk)]
              exact sq _ _ (sx _ _ e)
            · rw [upd_ne hkt.symm]
              exact sq _ _ Wx
            · rw [eo2]; exact IsThs.kp (Kp.of so) hst'
            · rw [eo2]
              unfold prs
              rw [List.map_append]
              refine IsThs.app _ (IsThs.kp (Kp.of so) hdn) (.cons (.tup (off_in upd_same hqk hqt) (.cons (.at (small_deed hx.1)) (.cons (IsTh.kp (Kp.of so) hvn) .nil))) .nil)
            · rw [eo2]; exact IsTh.kp (Kp.of so) hvn
          clear hst hdn ha hvn hat hst' W2 L2 s2
          rintro σ3 H3 ⟨wl', rfl, s3, W3, L3, hst3, hdn3, hvn3⟩
          refine ⟨_, rfl, rfl, _, rfl, ite2 (fun g => ?_) (fun g => ?_)⟩
          · have hd : d = "node" := by
              have g' := of_decide_eq_true g
              injection g'
            subst hd
            obtain ⟨_, hokn, hzn⟩ := hx
            obtain ⟨N', rfl⟩ : ∃ N', N = N' + 1 := by
              cases N with
              | zero => exact hokn.elim
              | succ N' => exact ⟨N', rfl⟩
            obtain ⟨w0, xs, rfl, hlet, hkid⟩ := hokn
            simp only [] at hzn
            have hxs : Th.sz (.tup (.at (.str w0) :: xs)) = 1 + (1 + szs xs) := by simp only [Th.sz, szs]
            have hxl := szs_len xs
            have hkl : (kidsL xs).length ≤ 100000 := by
              have h1 := List.length_filter_le isTup xs
              show (xs.filter isTup).length ≤ _
              omega
            have hkok : ∀ k ∈ kidsL xs, OkT N' k ∧ Th.sz k ≤ 100000 := fun k hk => by
              have hk' : k ∈ xs ∧ isTup k = true := List.mem_filter.mp hk
              have := sz_mem xs k hk'.1
              exact ⟨hkid k hk'.1 hk'.2, by omega⟩
            refine ⟨fun σ' H' => ∃ (l : Addr) (ys : List V), σ' = [some v, some (.ref wk), some (.ref wt), some (.str "node"), some vn, some (.ref l)] ∧ Same H3 H' ∧ H' l = some (.lst ys) ∧ H3 l = none ∧ IsThs (off wk wt H') ys (prs ((kidsL xs).map fun k => (("node" : Str), k))), ?_, ?_⟩
            · refine ⟨_, rfl, off wk wt H3, vn, .at (.str w0) :: xs, rfl, off_sub, hvn3, by rw [List.length_cons]; omega, fun p ps H4 s4 hp4 hps => ?_⟩
              rw [kids_cons] at hps
              have hpl := IsThs.len _ hps
              refine ⟨p, rfl, ⟨_, SqT.of hp4⟩, comp_tup (K := K) (a := p) (xs := ps) (fun i ys σc H' => ∃ o, σc = [o] ∧ Same H4 H' ∧ ys.length = i ∧ IsThs (off wk wt H') ys (prs (((kidsL xs).take i).map fun k => (("node" : Str), k))))
                ⟨none, rfl, Same.refl _, rfl, by rw [List.take_zero]; exact .nil⟩ (fun i ys σc H' ⟨_, _, e, _⟩ => SqT.of (e _ _ hp4)) ?_ ?_⟩
              · rintro i x ys σc H' hxi hi ⟨o, rfl, s5, hyl, hys⟩
                obtain ⟨kd, hk, h1⟩ := ths_get _ hps hxi
                refine ⟨by omega, _, rfl, (by show 2 ≤ sizeLine; decide), fun q hq => ?_⟩
                have sq := same_upd (o := .tup [.str "node", x]) hq
                have so := off_same (a := wk) (b := wt) sq
                have hqk : q ≠ wk := fun z => by rw [z, s5 _ _ (s4 _ _ L3)] at hq; cases hq
                have hqt : q ≠ wt := fun z => by rw [z, s5 _ _ (s4 _ _ W3)] at hq; cases hq
                refine nx hi ⟨_, rfl, s5.trans sq, by rw [List.length_append, hyl]; rfl, ?_⟩
                have e1 : ((kidsL xs).take (i + 1)) = (kidsL xs).take i ++ [kd] := by rw [List.take_add_one, hk]; rfl
                unfold prs
                rw [e1, List.map_append, List.map_append]
                refine IsThs.app _ (IsThs.kp (Kp.of so) hys) (.cons (.tup (off_in upd_same hqk hqt) (.cons (.at (small_deed (.inl rfl))) (.cons (IsTh.kp (Kp.of (off_same ((s4.trans s5).trans sq))) h1) .nil))) .nil)
              · rintro ys σc H' ⟨o, rfl, s5, hyl, hys⟩ l hl
                rw [List.take_of_length_le (by omega)] at hys
                have sl := same_upd (o := .lst ys) hl
                refine ⟨l, ys, rfl, (s4.trans s5).trans sl, upd_same, same_none (s4.trans s5) hl, IsThs.kp (Kp.of (off_same sl)) hys⟩
            rintro σ4 H4 ⟨l, ys, rfl, s4, hl4, hl3, hys4⟩
            have hlk : l ≠ wk := fun z => by rw [z, L3] at hl3; cases hl3
            have hlt' : l ≠ wt := fun z => by rw [z, W3] at hl3; cases hl3
            obtain ⟨an, vns, evn, han, hvns⟩ := th_tup hvn3
            cases hvns with
            | @cons vh vr _ _ c1 c2 =>
              obtain ⟨rfl, _⟩ := th_at c1
              have han3 := off_sub _ _ han
              refine ⟨fun σ' H' => ∃ (l : Addr) (ys : List V) (ps : List (Str × Th)), σ' = [some v, some (.ref wk), some (.ref wt), some (.str "node"), some vn, some (.ref l)] ∧ Same H3 H' ∧ H' l = some (.lst ys) ∧ IsThs (off wk wt H') ys (prs ps) ∧
                todoT (st' ++ [(("node" : Str), .tup (.at (.str w0) :: xs))]) = (("node" : Str), .tup (.at (.str w0) :: xs)) :: todoT (st' ++ ps.reverse) ∧ ∀ x ∈ ps, StOk (N' + 1) x, ?_, ?_⟩
              · have hself : StOk (N' + 1) ("opened", .tup (.at (.str w0) :: xs)) ∧ StOk (N' + 1) ("closed", .tup (.at (.str w0) :: xs)) :=
                  ⟨⟨.inr (.inl rfl), ⟨w0, xs, rfl, hlet, hkid⟩, hzn⟩, ⟨.inr (.inr rfl), ⟨w0, xs, rfl, hlet, hkid⟩, hzn⟩⟩
                refine ⟨_, rfl, an, _, 0, .str w0, evn, rfl, SqT.of (s4 _ _ han3), at_head _ _, rfl, _, rfl, ite2 (fun g2 => ?_) (fun g2 => ?_)⟩
                · have hw0 : w0 = "let" := by
                    have g' := of_decide_eq_true g2
                    injection g'
                  have h2 := hlet hw0
                  obtain ⟨k1, k2, hk12⟩ : ∃ k1 k2, kidsL xs = [k1, k2] := by
                    match hq : kidsL xs, h2 with
                    | [k1, k2], _ => exact ⟨k1, k2, rfl⟩
                  rw [hk12] at hys4 hkok
                  cases hys4 with
                  | @cons y1 yr _ _ d1 d2 =>
                    cases d2 with
                    | @cons y2 yr2 _ _ d3 d4 =>
                      cases d4
                      refine ⟨_, rfl, l, _, 0, y1, rfl, rfl, SqL.of hl4, at_head _ _, _, rfl, (by show 2 ≤ sizeLine; decide), fun q1 hq1 => ?_⟩
                      have sq1 := same_upd (o := .tup [.str "opened", vn]) hq1
                      refine ⟨_, rfl, l, _, 1, y2, rfl, rfl, SqL.of (sq1 _ _ hl4), at_next _ _ _, _, rfl, (by show 2 ≤ sizeLine; decide), fun q2 hq2 => ?_⟩
                      have sq2 := same_upd (o := .tup [.str "closed", vn]) hq2
                      refine ⟨(by show 4 ≤ sizeLine; decide), fun l2 hl2 => ?_⟩
                      have sq3 := same_upd (o := .lst [y1, .ref q1, y2, .ref q2]) hl2
                      have sA := (sq1.trans sq2).trans sq3
                      have hq1k : q1 ≠ wk := fun z => by rw [z, s4 _ _ L3] at hq1; cases hq1
                      have hq1t : q1 ≠ wt := fun z => by rw [z, s4 _ _ W3] at hq1; cases hq1
                      have hq2k : q2 ≠ wk := fun z => by rw [z, sq1 _ _ (s4 _ _ L3)] at hq2; cases hq2
                      have hq2t : q2 ≠ wt := fun z => by rw [z, sq1 _ _ (s4 _ _ W3)] at hq2; cases hq2
                      have oA := off_same (a := wk) (b := wt) sA
                      have hvA := IsTh.kp (Kp.of (off_same (a := wk) (b := wt) (s4.trans sA))) hvn3
                      refine ⟨l2, _, [("node", k1), ("opened", .tup (.at (.str w0) :: xs)), ("node", k2), ("closed", .tup (.at (.str w0) :: xs))], rfl, s4.trans sA, upd_same, ?_, ?_, ?_⟩
                      · exact .cons (IsTh.kp (Kp.of oA) d1) (.cons (.tup (off_in (sq3 _ _ (sq2 _ _ upd_same)) hq1k hq1t) (.cons (.at (small_deed (.inr (.inl rfl)))) (.cons hvA .nil))) (.cons (IsTh.kp (Kp.of oA) d3) (.cons (.tup (off_in (sq3 _ _ upd_same) hq2k hq2t) (.cons (.at (small_deed (.inr (.inr rfl)))) (.cons hvA .nil))) .nil)))
                      · exact todo_let (by rw [isLet_iff, hw0]; decide +kernel) (by rw [kids_cons, hk12])
                      · intro x hx
                        have o1 := hkok k1 (by simp)
                        have o2 := hkok k2 (by simp)
                        simp only [List.mem_cons, List.not_mem_nil, or_false] at hx
                        rcases hx with rfl | rfl | rfl | rfl
                        · exact ⟨.inl rfl, o1.1.up, o1.2⟩
                        · exact hself.1
                        · exact ⟨.inl rfl, o2.1.up, o2.2⟩
                        · exact hself.2
                · have hw0 : w0 ≠ "let" := fun z => g2 (by rw [z]; decide +kernel)
                  refine ⟨l, ys, (kidsL xs).map fun k => (("node" : Str), k), rfl, s4, hl4, hys4, ?_, ?_⟩
                  · have := todo_plain (st := st') (xs := .at (.str w0) :: xs) (by rw [isLet_iff]; exact decide_eq_false hw0)
                    rw [kids_cons] at this
                    exact this
                  · intro x hx
                    obtain ⟨kd, hk, rfl⟩ := List.mem_map.mp hx
                    exact ⟨.inl rfl, (hkok kd hk).1.up, (hkok kd hk).2⟩
              clear hys4 hl4 s4 hl3 hlk hlt'
              rintro σ5 H5 ⟨l, ys, ps, rfl, s5, hl5, hys5, htodo, hps⟩
              have hyl := IsThs.len _ hys5
              rw [List.length_map] at hyl
              have hnew : ∀ x ∈ st' ++ ps.reverse, StOk (N' + 1) x := fun x hx => by
                rcases List.mem_append.mp hx with z | z
                · exact hall' x z
                · exact hps x (List.mem_reverse.mp z)
              have hnl := todo_len _ hnew
              rw [htodo] at hlen
              rw [List.length_cons] at hlen
              rw [List.length_append, List.length_reverse] at hnl
              have hwl := IsThs.len _ hst3
              rw [List.length_map] at hwl
              refine ⟨_, rfl, .inl ⟨rfl, _, SqL.of (s5 _ _ W3)⟩, _, rfl, _, rfl, rfl, l, ys, rfl, SqL.of hl5, fun p hp => ?_⟩
              have sp5 := same_upd (o := .lst ys.reverse) hp
              refine ⟨wt, p, ws', ys.reverse, rfl, rfl, sp5 _ _ (s5 _ _ W3), upd_same, by rw [List.length_reverse]; omega, ?_⟩
              have eo : off wk wt (upd (upd H5 p (.lst ys.reverse)) wt (.lst (ws' ++ ys.reverse))) = off wk wt (upd H5 p (.lst ys.reverse)) := off_upd2
              refine ⟨(todoT (st' ++ ps.reverse)).length, by rw [htodo, List.length_cons]; omega, ws' ++ ys.reverse, wl', st' ++ ps.reverse, dn ++ [(("node" : Str), Th.tup (.at (.str w0) :: xs))], _, _, _, rfl, ?_, upd_same, ?_, ?_, ?_, ?_, hnew, rfl⟩
              · intro b ob e
                rw [upd_ne (ne_of_none e hwt)]
                exact sp5 _ _ (s5 _ _ (s3 _ _ e))
              · rw [upd_ne hkt]
                exact sp5 _ _ (s5 _ _ L3)
              · rw [eo]
                unfold prs
                rw [List.map_append, List.map_reverse]
                exact IsThs.app _ (IsThs.kp (Kp.of (off_same (s5.trans sp5))) hst3) (ths_rev _ (IsThs.kp (Kp.of (off_same sp5)) hys5))
              · rw [eo]
                exact IsThs.kp (Kp.of (off_same (s5.trans sp5))) hdn3
              · rw [← heq, htodo, List.append_assoc]
                rfl
          · have hd : d ≠ "node" := fun z => g (by rw [z]; decide +kernel)
            have e1 : todoT (st' ++ [(d, n)]) = (d, n) :: todoT st' := by
              rw [todo_snoc]
              unfold todo1
              rw [if_neg hd]
              rfl
            refine ⟨(todoT st').length, by rw [e1, List.length_cons]; omega, ws', wl', st', dn ++ [(d, n)], _, _, _, rfl, s3, W3, L3, hst3, hdn3, ?_, hall', rfl⟩
            rw [← heq, e1, List.append_assoc]
            rfl
      · rintro σ H1 Q1 Q2 hq ⟨u1, e1, b1, e2, q⟩
        exact ⟨u1, e1, b1, e2, hq _ _ q⟩
end
end K17

set_option Elab.async false
set_option linter.all false
set_option maxRecDepth 100000
set_option maxHeartbeats 4000000
namespace K17
open PySem L2
theorem call_len_seqK {X : Cx} {K : PySem.W.Frag} (hK : X.K = K) : CallR X (.builtin "len") (fun xs H Q => ∃ p ys, xs = [.ref p] ∧ (SqL K H p ys ∨ SqT K H p ys) ∧ Q (.int ys.length) H) := by
  subst hK
  exact call_len_seq
/-- a pair taken apart, within a block -/
theorem pg_pairK {X : Cx} {K : PySem.W.Frag} {x y : Str} {px py pos : Pos} {k i j : Nat} (hK : X.K = K) (hc : X.calm = true) (hN : X.N.Nodup) (hi : X.N[i]? = some x) (hx : Loc X.env.scope x) (hj : X.N[j]? = some y) (hy : Loc X.env.scope y)
    (hf : X.fn x = true ∨ X.env.scope.names.lookup x = some .local) (hg : X.fn y = true ∨ X.env.scope.names.lookup y = some .local) :
    PG X (.Tuple [.Name x px, .Name y py] k pos) (gTup K 2 (gCons (gName i) (gCons (gName j) gNil))) := by
  subst hK
  exact pg_tup hc (pgs_cons (pg_name hN hi hx hf) (pgs_cons (pg_name hN hj hy hg) pgs_nil))
/-- a row of a tree: what a node leads with, how many parts it has -/
def rowT : Th → Th
  | .tup xs => .tup [.tup (leadL xs), .at (.int ((kidsL xs).length : Nat))]
  | t => t
def flatT (t : Th) : List Th := (nodeDeeds (stepsT t)).map fun p => rowT p.2
def spFlat (N : Nat) : Sp := fun vs H Q _ => ∃ (v : V) (t : Th), vs = [v] ∧ IsTh H v t ∧ OkT N t ∧ Th.sz t ≤ 100000 ∧
  ∀ (p : Addr) (ws : List V) H', Same H H' → H p = none → H' p = some (.lst ws) → IsThs H' ws (flatT t) → Q (.ref p) H'
mutual
/-- what a walk meets are parts of the tree -/
theorem steps_ok : ∀ (t : Th) (N : Nat), OkT N t → Th.sz t ≤ 100000 → ∀ x ∈ stepsT t, OkT N x.2 ∧ Th.sz x.2 ≤ 100000
  | .tup xs, N, h, hz, x, hx => by
    rw [stepsT] at hx
    rcases List.mem_cons.mp hx with z | z
    · subst z; exact ⟨h, hz⟩
    · cases N with
      | zero => exact h.elim
      | succ N =>
        refine inner_ok (isLetT xs) (.tup xs) xs N 0 ?_ h hz ?_ x z
        · intro y hy hyt
          obtain ⟨w, ts, e, _, h2⟩ := h
          cases e
          rcases List.mem_cons.mp hy with q | q
          · subst q; cases hyt
          · exact h2 y q hyt
        · rw [Th.sz] at hz; omega
  | .at _, N, h, hz, x, hx => by simp [stepsT] at hx
  | .lst _, N, h, hz, x, hx => by simp [stepsT] at hx
theorem inner_ok (l : Bool) (me : Th) : ∀ (xs : List Th) (N i : Nat), (∀ y ∈ xs, isTup y = true → OkT N y) → OkT (N + 1) me → Th.sz me ≤ 100000 → szs xs ≤ 100000 → ∀ x ∈ innerT l me i xs, OkT (N + 1) x.2 ∧ Th.sz x.2 ≤ 100000
  | [], N, i, h, hm, hz, hs, x, hx => by simp [innerT] at hx
  | y :: ys, N, i, h, hm, hz, hs, x, hx => by
    rw [innerT] at hx
    rw [szs] at hs
    have hr := fun j z => inner_ok l me ys N j (fun q hq => h q (List.mem_cons_of_mem _ hq)) hm hz (by omega) x z
    split at hx
    · rcases List.mem_append.mp hx with z | z
      · have := steps_ok y N (h y (List.mem_cons_self ..) ‹_›) (by omega) x z
        exact ⟨this.1.up, this.2⟩
      · rcases List.mem_append.mp z with z | z
        · have e : x.2 = me := by
            match i with
            | 0 => cases l <;> simp [markT] at z; rw [z]
            | 1 => cases l <;> simp [markT] at z; rw [z]
            | _ + 2 => simp [markT] at z
          rw [e]; exact ⟨hm, hz⟩
        · exact hr _ z
    · exact hr _ hx
end
theorem take_rows {l : List (Str × Th)} {i : Nat} {p : Str × Th} (h : l[i]? = some p) : (nodeDeeds (l.take (i + 1))).map (fun p => rowT p.2) = (nodeDeeds (l.take i)).map (fun p => rowT p.2) ++ (if p.1 = "node" then [rowT p.2] else []) := by
  unfold nodeDeeds
  rw [List.take_add_one, h, List.filter_append, List.map_append]
  by_cases hp : p.1 = "node" <;> simp [hp]
section
variable {P : Program} {w : World} {K : PySem.W.Frag} {mg : Str → Option Value} {base : Heap}
/-- the helpers of the trees -/
structure HT (K : PySem.W.Frag) (mg : Str → Option Value) (fP fH fS : Addr) (dP dH dS : FuncData) : Prop where
  T : TxtT mg
  TD : TxtD mg
  KI : Kits K
  P : Fun K "parts" "parts" sParts fP dP
  bP : Binds K dP ["e"] []
  mP : mg "parts" = some (.ref fP)
  H : Fun K "head" "head" sHead fH dH
  bH : Binds K dH ["node"] []
  mH : mg "head" = some (.ref fH)
  S : Fun K "steps" "steps" sSteps fS dS
  bS : Binds K dS ["tree"] []
  mS : mg "steps" = some (.ref fS)
theorem nd2 : (["deed", "node"] : List Str).Nodup := by decide +kernel
theorem scFlat : FnScope ["tree"] ["tree"] (defScope sFlat) := ⟨rfl, rfl, rfl, by decide +kernel, rfl, by decide +kernel, by decide +kernel⟩
theorem ok_flat {f fP fH fS : Addr} {fd dP dH dS : FuncData} (F : Fun K "flat" "flat" sFlat f fd) (U : HT K mg fP fH fS dP dH dS) (N : Nat) : FnOk P w K mg base CX0 3 f fd ["tree"] (spFlat N) := by
  have GP : FnOk P w K mg base CX0 1 fP dP ["e"] spParts := ok_parts U.P U.T U.KI
  have GH : FnOk P w K mg base CX0 1 fH dH ["node"] spHead := ok_head U.H U.T U.KI
  have GS : FnOk P w K mg base CX0 2 fS dS ["tree"] (spSteps N) := ok_steps U.S U.T U.TD U.KI U.P U.bP U.mP N
  obtain ⟨tn, hNode⟩ := U.TD.node
  refine F.ok scFlat (fun vs H Q E h => ?_) (fun cdv A outer s H vs Q E hr h => ?_)
  · obtain ⟨v, t, rfl, _⟩ := h
    rfl
  · obtain ⟨v, t, rfl, ht, hok, hz, k⟩ := h
    have hsz : sizeLine = 16777216 := sizeLine_eq
    have hr1 : Room 1 _ := hr.mono (by decide)
    have hr2 : Room 2 _ := hr.mono (by decide)
    refine' ⟨?tt, ?body, ?fin⟩
    case body =>
      refine' pss_one ?s1
      case s1 =>
        refine' ps_ret ?r
        case r =>
          refine' pe_comp (N' := ["deed", "node"]) (src := [none, none]) ?k1 ?k5 ?k6 ?k7
          case k1 => rfl
          case k5 => exact compScope_of (defScope sFlat) rfl ["tree"] rfl (by decide +kernel)
          case k6 => exact pi_list (pe_call GS hr2 (by rfl) U.mS U.S.kp U.bS .nil pass0 (pa_n (pv 0) pa_nil))
          case k7 =>
            intro cl C ex s0 H0
            refine' ⟨?g1, ?g2, ?g3⟩
            case g1 => exact pg_pairK (K := K) (i := 0) (j := 1) rfl rfl nd2 rfl (Or.inl rfl) rfl (Or.inl rfl) (Or.inr rfl) (Or.inr rfl)
            case g2 => exact pts_one (pt_cmpR op_eq (pv 0) (pe_glob (v := .str "node") (by rfl) hNode ⟨tn, rfl⟩) (nomark _))
            case g3 => exact pe_tup (pa_c (pe_call GH hr1 (by rfl) U.mH U.H.kp U.bH .nil pass0 (pa_n (pv 1) pa_nil)) (pa_c (pe_callB (id := "len") (call_len_seqK (K := K) rfl) (by rfl) U.T.len PySem.boot_len (pa_c (pe_call GP hr1 (by rfl) U.mP U.P.kp U.bP .nil pass0 (pa_n (pv 1) pa_nil)) pa_nil)) pa_nil))
    case fin =>
      refine ⟨_, rfl, v, t, rfl, ht, hok, hz, fun p ws H1 s1 hp0 hp hws => ?_⟩
      have hl := IsThs.len _ hws
      rw [List.length_map] at hl
      have hlt := len_steps t
      refine ⟨p, rfl, ⟨_, SqL.of hp⟩, comp_list (K := K) (a := p) (xs := ws) (fun i ys σc H' => ∃ o o', σc = [o, o'] ∧ Same H1 H' ∧ ys.length ≤ i ∧ IsThs H' ys ((nodeDeeds ((stepsT t).take i)).map fun p => rowT p.2))
        ⟨none, none, rfl, Same.refl _, Nat.le_refl _, by rw [List.take_zero]; exact .nil⟩ (fun i ys σc H' ⟨_, _, _, e, _⟩ => SqL.of (e _ _ hp)) ?_ ?_⟩
      · rintro i x ys σc H' hx hi ⟨o, o', rfl, s2, hyl, hys⟩
        obtain ⟨u, hu, h1⟩ := ths_get _ hws hx
        rw [List.getElem?_map] at hu
        obtain ⟨q, hq, rfl⟩ : ∃ q, (stepsT t)[i]? = some q ∧ pr q = u := by
          cases e : (stepsT t)[i]? with
          | none => rw [e] at hu; cases hu
          | some q => rw [e] at hu; exact ⟨q, rfl, by simpa using hu⟩
        obtain ⟨hqo, hqz⟩ := steps_ok t N hok hz q (List.mem_of_getElem? hq)
        obtain ⟨a, vs, rfl, ha, hvs⟩ := th_tup h1
        have htd := take_rows hq
        cases hvs with
        | cons c1 c2 =>
          cases c2 with
          | @cons vn _ _ _ c3 c4 =>
            cases c4
            obtain ⟨rfl, _⟩ := th_at c1
            refine ⟨by omega, a, _, rfl, SqT.of (s2 _ _ ha), rfl, _, _, rfl, _, _, rfl, rfl, _, rfl, rfl, _, rfl, ite2 (fun g => ?_) (fun g => ?_)⟩
            · have hd : q.1 = "node" := by
                have g' := of_decide_eq_true g
                injection g'
              rw [if_pos hd] at htd
              obtain ⟨N', rfl⟩ : ∃ N', N = N' + 1 := by
                cases N with
                | zero => exact hqo.elim
                | succ N' => exact ⟨N', rfl⟩
              obtain ⟨w0, xs, e0, _⟩ := hqo
              rw [e0] at c3 hqz htd
              have hxs : Th.sz (.tup (.at (.str w0) :: xs)) = 1 + (1 + szs xs) := by simp only [Th.sz, szs]
              have hxl := szs_len xs
              have c3' := IsTh.kp (Kp.of s2) c3
              refine ⟨_, rfl, H', vn, _, rfl, Same.refl _, c3', by rw [List.length_cons]; omega, fun p1 ws1 H2 s3 hp1 hw1 => ?_⟩
              refine ⟨_, rfl, H2, vn, _, rfl, Same.refl _, IsTh.kp (Kp.of s3) c3', by rw [List.length_cons]; omega, fun p2 ps H3 s4 hp3 hps => ?_⟩
              refine ⟨p2, ps, rfl, .inr (SqT.of hp3), (by show 2 ≤ sizeLine; decide), fun q3 hq3 => ?_⟩
              have sA := (s3.trans s4).trans (same_upd (o := .tup [.ref p1, .int (ps.length : Nat)]) hq3)
              refine nx hi ⟨_, _, rfl, s2.trans sA, by rw [List.length_append]; show ys.length + 1 ≤ i + 1; omega, ?_⟩
              rw [htd]
              refine IsThs.app _ (IsThs.kp (Kp.of sA) hys) (.cons ?_ .nil)
              have hpl := IsThs.len _ hps
              show IsTh _ _ (.tup [.tup (leadL (.at (.str w0) :: xs)), .at (.int ((kidsL (.at (.str w0) :: xs)).length : Nat))])
              rw [← hpl]
              refine .tup upd_same (.cons (.tup (same_upd hq3 _ _ (s4 _ _ hp1)) (IsThs.kp (Kp.of sA) hw1)) (.cons (.at rfl) .nil))
            · have hd : q.1 ≠ "node" := fun z => g (by rw [z]; decide +kernel)
              rw [if_neg hd, List.append_nil] at htd
              exact nx hi ⟨_, _, rfl, s2, by omega, by rw [htd]; exact hys⟩
      · rintro ys σc H' ⟨o, o', rfl, s2, hyl, hys⟩ q hq
        rw [List.take_of_length_le (by omega)] at hys
        have sq := same_upd (o := .lst ys) hq
        exact k q ys _ ((s1.trans s2).trans sq) (same_none (s1.trans s2) hq) upd_same (IsThs.kp (Kp.of sq) hys)
end
end K17

set_option Elab.async false
set_option linter.all false
set_option maxRecDepth 100000
set_option maxHeartbeats 4000000
namespace K17
open PySem L2
/-- a form: a word, at most one plain field, then the parts -/
def nd (w : Str) (hd : List V) (ks : List Th) : Th := .tup (.at (.str w) :: (hd.map Th.at ++ ks))
def PfT : Nat → Th → Prop
  | 0, _ => False
  | n + 1, t => ∃ (w : Str) (hd : List V) (ks : List Th), t = nd w hd ks ∧ hd.length ≤ 1 ∧ (∀ v ∈ hd, plT (.at v) = true) ∧ (w = "let" → hd = [] ∧ ks.length = 2) ∧ (w = "hole" → ∃ i : Nat, hd = [.int i] ∧ ks = []) ∧ ks.length ≤ 6 ∧ ∀ k ∈ ks, PfT n k
theorem PfT.up : ∀ (n : Nat) {t : Th}, PfT n t → PfT (n + 1) t := by
  intro n
  induction n with
  | zero => intro t h; exact h.elim
  | succ n ih =>
    intro t h
    obtain ⟨w, hd, ks, e, h1, h2, h3, h4, h5, h6⟩ := h
    exact ⟨w, hd, ks, e, h1, h2, h3, h4, h5, fun k hk => ih (h6 k hk)⟩
theorem PfT.le {n m : Nat} {t : Th} (h : PfT n t) (hm : n ≤ m) : PfT m t := by
  induction hm with
  | refl => exact h
  | step _ ih => exact PfT.up _ ih
theorem PfT.isTup {n : Nat} {t : Th} (h : PfT n t) : isTup t = true := by
  cases n with
  | zero => exact h.elim
  | succ n => obtain ⟨w, hd, ks, rfl, _⟩ := h; rfl
theorem ats_kids (hd : List V) : (hd.map Th.at).filter L2.isTup = [] := by
  induction hd with
  | nil => rfl
  | cons v hd ih => rw [List.map_cons, List.filter_cons]; simpa [L2.isTup] using ih
theorem ats_lead (hd : List V) : (hd.map Th.at).filter notTup = hd.map Th.at := by
  induction hd with
  | nil => rfl
  | cons v hd ih => rw [List.map_cons, List.filter_cons, if_pos (by rfl), ih]
theorem kids_all : ∀ {ks : List Th}, (∀ k ∈ ks, L2.isTup k = true) → ks.filter L2.isTup = ks := fun h => List.filter_eq_self.mpr h
theorem lead_none {ks : List Th} (h : ∀ k ∈ ks, L2.isTup k = true) : ks.filter notTup = [] := by
  rw [List.filter_eq_nil_iff]
  intro k hk
  unfold notTup
  rw [h k hk]
  decide
theorem nd_kids {w : Str} {hd : List V} {ks : List Th} (h : ∀ k ∈ ks, L2.isTup k = true) : kidsL (.at (.str w) :: (hd.map Th.at ++ ks)) = ks := by
  unfold kidsL
  rw [List.filter_cons, if_neg (by simp [L2.isTup]), List.filter_append, ats_kids, List.nil_append, kids_all h]
theorem nd_lead {w : Str} {hd : List V} {ks : List Th} (h : ∀ k ∈ ks, L2.isTup k = true) : leadL (.at (.str w) :: (hd.map Th.at ++ ks)) = .at (.str w) :: hd.map Th.at := by
  unfold leadL
  rw [List.filter_cons, if_pos (by rfl), List.filter_append, ats_lead, lead_none h, List.append_nil]
theorem ats_inj : ∀ {a b : List V}, a.map Th.at = b.map Th.at → a = b := by
  intro a
  induction a with
  | nil => intro b h; cases b with
    | nil => rfl
    | cons => cases h
  | cons x a ih => intro b h; cases b with
    | nil => cases h
    | cons y b =>
      rw [List.map_cons, List.map_cons] at h
      injection h with h1 h2
      injection h1 with h1
      rw [h1, ih h2]
theorem PfT.ok : ∀ (n : Nat) {t : Th}, PfT n t → OkT n t := by
  intro n
  induction n with
  | zero => intro t h; exact h.elim
  | succ n ih =>
    intro t h
    obtain ⟨w, hd, ks, rfl, h1, h2, h3, h4, h5, h6⟩ := h
    refine ⟨w, hd.map Th.at ++ ks, rfl, fun e => ?_, fun x hx ht => ?_⟩
    · obtain ⟨rfl, h⟩ := h3 e
      show ((([] : List V).map Th.at ++ ks).filter L2.isTup).length = 2
      rw [List.map_nil, List.nil_append, kids_all fun k hk => (h6 k hk).isTup]
      exact h
    · rcases List.mem_append.mp hx with z | z
      · obtain ⟨v, _, rfl⟩ := List.mem_map.mp z
        cases ht
      · exact ih (h6 x z)
theorem plTs_app : ∀ a b : List Th, plTs (a ++ b) = (plTs a && plTs b) := by
  intro a
  induction a with
  | nil => intro b; rw [List.nil_append, plTs, Bool.true_and]
  | cons x a ih => intro b; rw [List.cons_append, plTs, plTs, ih, Bool.and_assoc]
theorem plTs_all : ∀ {a : List Th}, (∀ x ∈ a, plT x = true) → plTs a = true := by
  intro a
  induction a with
  | nil => intro _; rw [plTs]
  | cons x a ih => intro h; rw [plTs, h x (List.mem_cons_self ..), ih fun y hy => h y (List.mem_cons_of_mem _ hy)]; rfl
theorem PfT.pl : ∀ (n : Nat) {t : Th}, PfT n t → plT t = true := by
  intro n
  induction n with
  | zero => intro t h; exact h.elim
  | succ n ih =>
    intro t h
    obtain ⟨w, hd, ks, rfl, h1, h2, h3, h4, h5, h6⟩ := h
    unfold nd
    rw [plT, plTs, plTs_app, plTs_all (a := hd.map Th.at) fun x hx => ?_, plTs_all (a := ks) fun x hx => ih (h6 x hx), plT]
    · rfl
    · obtain ⟨v, hv, rfl⟩ := List.mem_map.mp hx
      exact h2 v hv
theorem dps_le {n : Nat} : ∀ {a : List Th}, (∀ x ∈ a, dp x ≤ n) → dps a ≤ n := by
  intro a
  induction a with
  | nil => intro _; rw [dps]; exact Nat.zero_le _
  | cons x a ih => intro h; rw [dps]; exact Nat.max_le.mpr ⟨h x (List.mem_cons_self ..), ih fun y hy => h y (List.mem_cons_of_mem _ hy)⟩
theorem PfT.dp : ∀ (n : Nat) {t : Th}, PfT n t → L2.dp t ≤ n := by
  intro n
  induction n with
  | zero => intro t h; exact h.elim
  | succ n ih =>
    intro t h
    obtain ⟨w, hd, ks, rfl, h1, h2, h3, h4, h5, h6⟩ := h
    unfold nd
    rw [L2.dp, Nat.add_comm]
    refine Nat.succ_le_succ (dps_le fun x hx => ?_)
    rcases List.mem_cons.mp hx with rfl | hx
    · rw [L2.dp]; exact Nat.zero_le _
    · rcases List.mem_append.mp hx with z | z
      · obtain ⟨v, _, rfl⟩ := List.mem_map.mp z
        rw [L2.dp]; exact Nat.zero_le _
      · exact ih (h6 x z)
/-! ### flat tells the tree -/
theorem deeds_inner (l : Bool) (me : Th) : ∀ (xs : List Th) (i : Nat), nodeDeeds (innerT l me i xs) = ((kidsL xs).map fun k => nodeDeeds (stepsT k)).flatten := by
  intro xs
  induction xs with
  | nil => intro i; simp [innerT, kidsL, nodeDeeds]
  | cons x xs ih =>
    intro i
    rw [innerT]
    unfold kidsL at ih ⊢
    rw [List.filter_cons]
    split
    · have h3 := mark_deeds l me i
      have h2 := ih (i + 1)
      unfold nodeDeeds at *
      rw [List.filter_append, List.filter_append, h3, List.nil_append, List.map_cons, List.flatten_cons, h2]
    · exact ih i
theorem flat_node (xs : List Th) : flatT (.tup xs) = rowT (.tup xs) :: ((kidsL xs).map flatT).flatten := by
  unfold flatT
  rw [stepsT]
  have h := deeds_inner (isLetT xs) (.tup xs) xs 0
  unfold nodeDeeds at h ⊢
  rw [List.filter_cons, if_pos (by simp), List.map_cons, h, List.map_flatten, List.map_map]
  rfl
theorem flat_inj : ∀ (n m : Nat) {t u : Th} {r s : List Th}, PfT n t → PfT m u → flatT t ++ r = flatT u ++ s → t = u ∧ r = s := by
  intro n
  induction n with
  | zero => intro m t u r s h; exact h.elim
  | succ n ih =>
    intro m t u r s ht hu he
    cases m with
    | zero => exact hu.elim
    | succ m =>
      obtain ⟨w, hd, ks, rfl, h1, h2, h3, h4, h5, h6⟩ := ht
      obtain ⟨w', hd', ks', rfl, g1, g2, g3, g4, g5, g6⟩ := hu
      have k1 : ∀ k ∈ ks, L2.isTup k = true := fun k hk => (h6 k hk).isTup
      have k2 : ∀ k ∈ ks', L2.isTup k = true := fun k hk => (g6 k hk).isTup
      unfold nd at he
      rw [flat_node, flat_node, nd_kids k1, nd_kids k2, List.cons_append, List.cons_append] at he
      injection he with he1 he2
      unfold rowT at he1
      dsimp only at he1
      rw [nd_kids k1, nd_kids k2, nd_lead k1, nd_lead k2] at he1
      injection he1 with he1
      injection he1 with he3 he4
      injection he3 with he3
      injection he3 with he5 he6
      injection he4 with he4 _
      injection he4 with he4
      injection he4 with he4
      have hlen : ks.length = ks'.length := by omega
      have key : ∀ (as bs : List Th) (r s : List Th), as.length = bs.length → (∀ k ∈ as, PfT n k) → (∀ k ∈ bs, PfT m k) → (as.map flatT).flatten ++ r = (bs.map flatT).flatten ++ s → as = bs ∧ r = s := by
        intro as
        induction as with
        | nil =>
          intro bs r s hl _ _ e
          cases bs with
          | nil => exact ⟨rfl, by simpa using e⟩
          | cons => simp at hl
        | cons a as ih2 =>
          intro bs r s hl ha hb e
          cases bs with
          | nil => simp at hl
          | cons b bs =>
            rw [List.map_cons, List.map_cons, List.flatten_cons, List.flatten_cons, List.append_assoc, List.append_assoc] at e
            obtain ⟨e1, e2⟩ := ih m (ha a (List.mem_cons_self ..)) (hb b (List.mem_cons_self ..)) e
            obtain ⟨e3, e4⟩ := ih2 bs r s (by simpa using hl) (fun k hk => ha k (List.mem_cons_of_mem _ hk)) (fun k hk => hb k (List.mem_cons_of_mem _ hk)) e2
            exact ⟨by rw [e1, e3], e4⟩
      obtain ⟨e1, e2⟩ := key ks ks' r s hlen h6 g6 he2
      refine ⟨?_, e2⟩
      rw [e1, ats_inj he6]
      injection he5 with he5
      injection he5 with he5
      rw [he5]
theorem flat_eq {n m : Nat} {t u : Th} (h : PfT n t) (h' : PfT m u) (e : flatT t = flatT u) : t = u := (flat_inj n m h h' (r := []) (s := []) (by rw [e])).1
/-! ### holes filled -/
def holeOf : Th → Option Nat
  | .tup [.at (.str w), .at (.int i)] => if w = "hole" then some i.toNat else none
  | _ => none
mutual
def fl (σ : Nat → Th) : Th → Th
  | .tup xs => match holeOf (.tup xs) with
    | some i => σ i
    | none => .tup (fls σ xs)
  | .at v => .at v
  | .lst xs => .lst xs
def fls (σ : Nat → Th) : List Th → List Th
  | [] => []
  | x :: xs => fl σ x :: fls σ xs
end
mutual
def hs : Th → List Nat
  | .tup xs => match holeOf (.tup xs) with
    | some i => [i]
    | none => hss xs
  | .at _ => []
  | .lst _ => []
def hss : List Th → List Nat
  | [] => []
  | x :: xs => hs x ++ hss xs
end
theorem fls_map (σ : Nat → Th) : ∀ xs : List Th, fls σ xs = xs.map (fl σ) := by
  intro xs
  induction xs with
  | nil => rw [fls]; rfl
  | cons x xs ih => rw [fls, ih]; rfl
theorem hss_mem {i : Nat} : ∀ {xs : List Th}, i ∈ hss xs ↔ ∃ x ∈ xs, i ∈ hs x := by
  intro xs
  induction xs with
  | nil => rw [hss]; simp
  | cons x xs ih => rw [hss, List.mem_append, ih]; simp
theorem hole_nd {i : Nat} : holeOf (nd "hole" [.int (i : Nat)] []) = some i := by
  show (if ("hole" : Str) = "hole" then some ((i : Nat) : Int).toNat else none) = some i
  rw [if_pos rfl]; simp
theorem hole_not {w : Str} {hd : List V} {ks : List Th} (h : w ≠ "hole") : holeOf (nd w hd ks) = none := by
  unfold nd holeOf
  split
  · next w' i e =>
    injection e with e
    injection e with e1 e2
    injection e1 with e1
    injection e1 with e1
    rw [if_neg (by rw [← e1]; exact h)]
  · rfl
theorem fl_hole {σ : Nat → Th} {i : Nat} : fl σ (nd "hole" [.int (i : Nat)] []) = σ i := by
  have h := hole_nd (i := i)
  unfold nd at h ⊢
  rw [fl, h]
theorem hs_hole {i : Nat} : hs (nd "hole" [.int (i : Nat)] []) = [i] := by
  have h := hole_nd (i := i)
  unfold nd at h ⊢
  rw [hs, h]
theorem fl_ats (σ : Nat → Th) (hd : List V) : (hd.map Th.at).map (fl σ) = hd.map Th.at := by
  rw [List.map_map]
  refine List.map_congr_left fun v _ => ?_
  show fl σ (.at v) = .at v
  rw [fl]
theorem fl_nd {σ : Nat → Th} {w : Str} {hd : List V} {ks : List Th} (h : w ≠ "hole") : fl σ (nd w hd ks) = nd w hd (ks.map (fl σ)) := by
  have h' := hole_not (hd := hd) (ks := ks) h
  unfold nd at h' ⊢
  rw [fl, h']
  dsimp only
  rw [fls_map, List.map_cons, List.map_append, fl_ats, fl]
theorem hs_nd {w : Str} {hd : List V} {ks : List Th} {i : Nat} (h : w ≠ "hole") : i ∈ hs (nd w hd ks) ↔ ∃ k ∈ ks, i ∈ hs k := by
  have h' := hole_not (hd := hd) (ks := ks) h
  unfold nd at h' ⊢
  rw [hs, h']
  dsimp only
  rw [hss_mem]
  constructor
  · rintro ⟨x, hx, hi⟩
    rcases List.mem_cons.mp hx with rfl | hx
    · rw [hs] at hi; simp at hi
    · rcases List.mem_append.mp hx with z | z
      · obtain ⟨v, _, rfl⟩ := List.mem_map.mp z
        rw [hs] at hi; simp at hi
      · exact ⟨x, z, hi⟩
  · rintro ⟨k, hk, hi⟩
    exact ⟨k, List.mem_cons_of_mem _ (List.mem_append_right _ hk), hi⟩
theorem nd_inj {w w' : Str} {hd hd' : List V} {ks ks' : List Th} (h : ∀ k ∈ ks, L2.isTup k = true) (h' : ∀ k ∈ ks', L2.isTup k = true) (e : nd w hd ks = nd w' hd' ks') : w = w' ∧ hd = hd' ∧ ks = ks' := by
  unfold nd at e
  injection e with e
  have e1 := congrArg leadL e
  have e2 := congrArg kidsL e
  rw [nd_lead h, nd_lead h'] at e1
  rw [nd_kids h, nd_kids h'] at e2
  injection e1 with e1 e3
  injection e1 with e1
  injection e1 with e1
  exact ⟨e1, ats_inj e3, e2⟩
end K17

set_option Elab.async false
set_option linter.all false
set_option maxRecDepth 100000
set_option maxHeartbeats 4000000
namespace K17
open PySem L2
/-- a form's value -/
structure Fm (H : Hp) (v : V) (n : Nat) (t : Th) : Prop where
  is : IsTh H v t
  pf : PfT n t
  sz : Th.sz t ≤ 100000
def lk (t : Th) : List Th × Nat := match t with
  | .tup xs => (leadL xs, (kidsL xs).length)
  | _ => ([], 0)
def spAlike (N : Nat) : Sp := fun vs H Q _ => ∃ (p : Addr) (v1 v2 : V) (t1 t2 : Th), vs = [.ref p] ∧ H p = some (.tup [v1, v2]) ∧ Fm H v1 N t1 ∧ Fm H v2 N t2 ∧
  ∀ H', Same H H' → (lk t1 = lk t2 → Q (.bl true) H') ∧ (lk t1 ≠ lk t2 → Q (.bl false) H')
theorem lk_at {H : Hp} {v : V} {n : Nat} {t : Th} (f : Fm H v n t) : ∃ xs, t = .tup xs ∧ xs.length ≤ 1000000 ∧ plTs (leadL xs) = true ∧ dps (leadL xs) ≤ 1 := by
  obtain ⟨_, pf, sz⟩ := f
  cases n with
  | zero => exact pf.elim
  | succ n =>
    obtain ⟨w, hd, ks, rfl, h1, h2, h3, h4, h5, h6⟩ := pf
    refine ⟨_, rfl, ?_, ?_, ?_⟩
    · rw [List.length_cons, List.length_append, List.length_map]; omega
    · rw [nd_lead fun k hk => (h6 k hk).isTup, plTs, plTs_all (a := hd.map Th.at) fun x hx => ?_, plT]
      · rfl
      · obtain ⟨v, hv, rfl⟩ := List.mem_map.mp hx
        exact h2 v hv
    · rw [nd_lead fun k hk => (h6 k hk).isTup]
      refine dps_le fun x hx => ?_
      rcases List.mem_cons.mp hx with rfl | hx
      · rw [L2.dp]; exact Nat.zero_le _
      · obtain ⟨v, _, rfl⟩ := List.mem_map.mp hx
        rw [L2.dp]; exact Nat.zero_le _
theorem nd_ff : (["first", "form"] : List Str).Nodup := by decide +kernel
section
variable {P : Program} {w : World} {K : PySem.W.Frag} {mg : Str → Option Value} {base : Heap}
theorem scAlike : FnScope ["forms", "first"] ["forms"] (defScope sAlike) := ⟨rfl, rfl, rfl, by decide +kernel, rfl, by decide +kernel, by decide +kernel⟩
theorem ok_alike {f fP fH fS : Addr} {fd dP dH dS : FuncData} (F : Fun K "headed_alike" "headed_alike" sAlike f fd) (U : HT K mg fP fH fS dP dH dS) (hall : mg "all" = none) (N : Nat) : FnOk P w K mg base CX0 2 f fd ["forms"] (spAlike N) := by
  have GP : FnOk P w K mg base CX0 1 fP dP ["e"] spParts := ok_parts U.P U.T U.KI
  have GH : FnOk P w K mg base CX0 1 fH dH ["node"] spHead := ok_head U.H U.T U.KI
  refine F.ok scAlike (fun vs H Q E h => ?_) (fun cdv A outer s H vs Q E hr h => ?_)
  · obtain ⟨p, v1, v2, t1, t2, rfl, _⟩ := h
    rfl
  · obtain ⟨p, v1, v2, t1, t2, rfl, hp, f1, f2, k⟩ := h
    have hsz : sizeLine = 16777216 := sizeLine_eq
    have hr1 : Room 1 _ := hr.mono (by decide)
    have hu : (_ : Around).units + (1 + 1) < cLine := Nat.lt_of_le_of_lt (Nat.add_le_add_left (by decide) _) hr.units
    refine' ⟨?tt, ?body, ?fin⟩
    case body =>
      refine' pss_cons ?s1 (pss_one ?s2)
      case s1 => exact ps_set (i := 1) scAlike.nd rfl (Or.inr rfl) (pe_ix ix_tup (pv 0) pe_int (fun _ _ => rfl))
      case s2 =>
        refine' ps_ret ?r
        case r =>
          refine' pe_callB (call_all_of rfl) (by rfl) hall (by decide +kernel) ?a
          case a =>
            refine' pa_cons ?c pa_nil
            case c =>
              refine' pe_comp (N' := ["first", "form"]) (src := [some 1, none]) ?k1 ?k5 ?k6 ?k7
              case k1 => rfl
              case k5 => exact compScope_of (defScope sAlike) rfl ["forms", "first"] rfl (by decide +kernel)
              case k6 => exact pi_tup (pv 0)
              case k7 =>
                intro cl C ex s0 H0
                refine' ⟨?g1, ?g2, ?g3⟩
                case g1 => exact pg_name (i := 1) nd_ff rfl (Or.inl rfl)
                case g2 => exact pts_nil
                case g3 =>
                  refine' pe_and ?x (pe_one ?y)
                  case x => exact pe_cmpR (op_eqTh (K := K) rfl 1 hu) (pe_call GH hr1 (by rfl) U.mH U.H.kp U.bH .nil pass0 (pa_n (pv 1) pa_nil)) (pe_call GH hr1 (by rfl) U.mH U.H.kp U.bH .nil pass0 (pa_n (pv 0) pa_nil)) (nomark _)
                  case y => exact pe_cmpR op_eq (pe_callB (id := "len") (call_len_seqK (K := K) rfl) (by rfl) U.T.len PySem.boot_len (pa_c (pe_call GP hr1 (by rfl) U.mP U.P.kp U.bP .nil pass0 (pa_n (pv 1) pa_nil)) pa_nil)) (pe_callB (id := "len") (call_len_seqK (K := K) rfl) (by rfl) U.T.len PySem.boot_len (pa_c (pe_call GP hr1 (by rfl) U.mP U.P.kp U.bP .nil pass0 (pa_n (pv 0) pa_nil)) pa_nil)) (nomark _)
    case fin =>
      refine ⟨_, rfl, p, _, 0, v1, rfl, rfl, SqT.of hp, rfl, ?_⟩
      refine ⟨_, rfl, p, rfl, ⟨_, SqT.of hp⟩, comp_tup (K := K) (a := p) (xs := [v1, v2]) (fun i ys σc H' => ∃ o, σc = [some v1, o] ∧ Same H H' ∧ ∃ bs : List Bool, ys = bs.map V.bl ∧ bs.length = i ∧ (1 ≤ i → bs[0]? = some true) ∧ (2 ≤ i → (bs[1]? = some true ↔ lk t1 = lk t2)))
        ⟨none, rfl, Same.refl _, [], rfl, rfl, fun z => absurd z (by decide), fun z => absurd z (by decide)⟩ (fun i ys σc H' ⟨_, _, e, _⟩ => SqT.of (e _ _ hp)) ?_ ?_⟩
      · rintro i x ys σc H' hx hi ⟨o, rfl, s2, bs, rfl, hbl, hb1, hb2⟩
        refine ⟨by rw [List.length_map, hbl]; have : i < 2 := hi; omega, ?_⟩
        obtain ⟨u, fu, hu0, hu1⟩ : ∃ u, Fm H x N u ∧ (i = 0 → u = t1) ∧ (i = 1 → u = t2) := by
          match i, hx with
          | 0, hx => cases hx; exact ⟨t1, f1, fun _ => rfl, fun z => absurd z (by decide)⟩
          | 1, hx => cases hx; exact ⟨t2, f2, fun z => absurd z (by decide), fun _ => rfl⟩
        obtain ⟨xs, rfl, hx1, hx2, hx3⟩ := lk_at fu
        obtain ⟨ys, e1, hy1, hy2, hy3⟩ := lk_at f1
        have fin : ∀ (b : Bool) (H4 : Hp), Same H' H4 → (b = true ↔ lk (.tup xs) = lk t1) → Nx [v1, v2].length i (∃ o, [some v1, some x] = [some v1, o] ∧ Same H H4 ∧ ∃ bs_1, List.map V.bl bs ++ [V.bl b] = List.map V.bl bs_1 ∧ bs_1.length = i + 1 ∧ (1 ≤ i + 1 → bs_1[0]? = some true) ∧ (2 ≤ i + 1 → (bs_1[1]? = some true ↔ lk t1 = lk t2))) := by
          intro b H4 s4 hb
          refine nx hi ⟨_, rfl, s2.trans s4, bs ++ [b], by rw [List.map_append]; rfl, by rw [List.length_append, hbl]; rfl, fun _ => ?_, fun h2 => ?_⟩
          · by_cases h0 : i = 0
            · have hb' : b = true := hb.mpr (by rw [hu0 h0])
              rw [List.getElem?_append_right (by omega), hbl, h0, hb']
              rfl
            · rw [List.getElem?_append_left (by omega)]
              exact hb1 (by omega)
          · have h1 : i = 1 := by have : i < 2 := hi; omega
            have hb' : b = true ↔ lk t2 = lk t1 := by rw [hb, hu1 h1]
            rw [List.getElem?_append_right (by omega), hbl, h1]
            constructor
            · intro z
              have z' : b = true := by simpa using z
              exact (hb'.mp z').symm
            · intro z
              rw [hb'.mpr z.symm]
              rfl
        refine ⟨_, rfl, H, x, xs, rfl, s2, fu.is, hx1, fun p1 ws1 H2 s3 hp1 hw1 => ?_⟩
        refine ⟨_, rfl, H, v1, ys, rfl, s2.trans s3, by rw [← e1]; exact f1.is, hy1, fun p2 ws2 H3 s4 hp2 hw2 => ?_⟩
        refine ⟨leadL xs, leadL ys, .tup (s4 _ _ hp1) (IsThs.kp (Kp.of ((s2.trans s3).trans s4)) hw1), .tup hp2 (IsThs.kp (Kp.of ((s2.trans s3).trans s4)) hw2), hx2, hy2, hx3, hy3, fun el => ?_, fun nl => ?_⟩
        · refine ⟨_, rfl, iteT ?_⟩
          refine ⟨_, rfl, H, x, xs, rfl, (s2.trans s3).trans s4, fu.is, hx1, fun p3 ps H5 s5 hp5 hps => ⟨p3, ps, rfl, .inr (SqT.of hp5), ?_⟩⟩
          refine ⟨_, rfl, H, v1, ys, rfl, ((s2.trans s3).trans s4).trans s5, by rw [← e1]; exact f1.is, hy1, fun p4 qs H6 s6 hp6 hqs => ⟨p4, qs, rfl, .inr (SqT.of hp6), ?_⟩⟩
          have l1 := IsThs.len _ hps
          have l2 := IsThs.len _ hqs
          refine ⟨rfl, fin _ _ (((s3.trans s4).trans s5).trans s6) ?_⟩
          rw [e1]
          show decide (V.int ((ps.length : Nat) : Int) = V.int ((qs.length : Nat) : Int)) = true ↔ (leadL xs, (kidsL xs).length) = (leadL ys, (kidsL ys).length)
          rw [el, l1, l2, decide_eq_true_eq]
          constructor
          · intro z
            injection z with z
            rw [show (kidsL xs).length = (kidsL ys).length by omega]
          · intro z
            injection z with _ z
            rw [z]
        · refine ⟨_, rfl, iteF (fin false _ (s3.trans s4) ?_)⟩
          constructor
          · intro z; cases z
          · intro z
            rw [e1] at z
            exact absurd (congrArg Prod.fst z) nl
      · rintro ys σc H' ⟨o, rfl, s2, bs, rfl, hbl, hb1, hb2⟩ l hl
        refine ⟨l, bs, rfl, SqL.of upd_same, ?_⟩
        have sl := same_upd (o := .lst (bs.map V.bl)) hl
        have kk := k _ (s2.trans sl)
        have hbl2 : bs.length = 2 := hbl
        obtain ⟨b0, b1, rfl⟩ : ∃ b0 b1, bs = [b0, b1] := by
          match bs, hbl2 with
          | [b0, b1], _ => exact ⟨b0, b1, rfl⟩
        have h0 : b0 = true := by simpa using hb1 (show 1 ≤ 2 by decide)
        have h1 := hb2 (show 2 ≤ 2 by decide)
        subst h0
        cases b1 with
        | true => exact kk.1 (h1.mp rfl)
        | false => exact kk.2 fun z => by have := h1.mpr z; simp at this
end
end K17

set_option Elab.async false
set_option linter.all false
set_option maxRecDepth 100000
set_option maxHeartbeats 4000000
namespace K17
open PySem L2
/-- fillings that are tuples -/
def Tps (σ : Nat → Th) : Prop := ∀ i, L2.isTup (σ i) = true
theorem fl_tup {σ : Nat → Th} (hσ : Tps σ) {n : Nat} {t : Th} (h : PfT n t) : L2.isTup (fl σ t) = true := by
  cases n with
  | zero => exact h.elim
  | succ n =>
    obtain ⟨w, hd, ks, rfl, h1, h2, h3, h4, h5, h6⟩ := h
    by_cases e : w = "hole"
    · subst e
      obtain ⟨i, rfl, rfl⟩ := h4 rfl
      rw [fl_hole]
      exact hσ i
    · rw [fl_nd e]
      rfl
theorem lk_nd {w : Str} {hd : List V} {ks : List Th} (h : ∀ k ∈ ks, L2.isTup k = true) : lk (nd w hd ks) = (.at (.str w) :: hd.map Th.at, ks.length) := by
  unfold nd lk
  dsimp only
  rw [nd_lead h, nd_kids h]
theorem zip_all {σ : Nat → Th} : ∀ {as bs : List Th}, as.length = bs.length → (as.map (fl σ) = bs ↔ ∀ e ∈ as.zip bs, fl σ e.1 = e.2) := by
  intro as
  induction as with
  | nil =>
    intro bs h
    cases bs with
    | nil => simp
    | cons => simp at h
  | cons a as ih =>
    intro bs h
    cases bs with
    | nil => simp at h
    | cons b bs =>
      rw [List.map_cons, List.zip_cons_cons]
      have := ih (bs := bs) (by simpa using h)
      constructor
      · intro z e he
        injection z with z1 z2
        rcases List.mem_cons.mp he with rfl | he
        · exact z1
        · exact this.mp z2 e he
      · intro z
        rw [z (a, b) (List.mem_cons_self ..), this.mpr fun e he => z e (List.mem_cons_of_mem _ he)]
/-- a node against a form: word, field and number of parts the same, then the parts -/
theorem fl_node {σ : Nat → Th} (hσ : Tps σ) {n m : Nat} {w w' : Str} {hd hd' : List V} {ks ks' : List Th} (hw : w ≠ "hole") (h : ∀ k ∈ ks, PfT n k) (h' : ∀ k ∈ ks', PfT m k) :
    fl σ (nd w hd ks) = nd w' hd' ks' ↔ (lk (nd w hd ks) = lk (nd w' hd' ks') ∧ ∀ e ∈ ks.zip ks', fl σ e.1 = e.2) := by
  have k1 : ∀ k ∈ ks, L2.isTup k = true := fun k hk => (h k hk).isTup
  have k2 : ∀ k ∈ ks', L2.isTup k = true := fun k hk => (h' k hk).isTup
  have k3 : ∀ k ∈ ks.map (fl σ), L2.isTup k = true := fun k hk => by
    obtain ⟨y, hy, rfl⟩ := List.mem_map.mp hk
    exact fl_tup hσ (h y hy)
  rw [fl_nd hw, lk_nd k1, lk_nd k2]
  constructor
  · intro e
    obtain ⟨rfl, rfl, e3⟩ := nd_inj k3 k2 e
    have hl : ks.length = ks'.length := by rw [← e3, List.length_map]
    exact ⟨by rw [hl], (zip_all hl).mp e3⟩
  · rintro ⟨e1, e2⟩
    injection e1 with e1 e3
    injection e1 with e1 e4
    injection e1 with e1
    injection e1 with e1
    rw [e1, ats_inj e4, (zip_all e3).mpr e2]
/-- pairs that wait -/
def pp (e : Th × Th) : Th := .tup [e.1, e.2]
theorem pps_last {H : Hp} {ws : List V} {st : List (Th × Th)} (h : IsThs H ws (st.map pp)) (hne : ws ≠ []) : ∃ ws' st' t u a vt vu, ws = ws' ++ [.ref a] ∧ st = st' ++ [(t, u)] ∧ IsThs H ws' (st'.map pp) ∧ H a = some (.tup [vt, vu]) ∧ IsTh H vt t ∧ IsTh H vu u := by
  obtain ⟨ws', y, us', u, e1, e2, h1, h2⟩ := ths_last ws h hne
  have hn : st ≠ [] := fun z => by
    subst z
    have := congrArg List.length e2
    simp at this
  obtain ⟨st', x, rfl⟩ : ∃ st' x, st = st' ++ [x] := ⟨st.dropLast, st.getLast hn, (List.dropLast_concat_getLast hn).symm⟩
  have e3 : (st' ++ [x]).map pp = st'.map pp ++ [pp x] := by simp
  rw [e3] at e2
  obtain ⟨e5, e6⟩ := List.append_inj' e2 rfl
  have e6' : pp x = u := by simpa using e6
  subst e6' e5
  obtain ⟨a, vs, rfl, ha, hvs⟩ := th_tup h2
  cases hvs with
  | cons c1 c2 =>
    cases c2 with
    | cons c3 c4 =>
      cases c4
      exact ⟨ws', st', x.1, x.2, a, _, _, e1, rfl, h1, ha, c1, c3⟩
/-- what got knows: holes met, their fillings, and both dicts -/
structure DD (H : Hp) (N : Nat) (ks : List Nat) (g : Nat → Th) (kvs kvs2 : List (Key × V)) : Prop where
  k1 : kvs.map (·.1) = ks.map fun (i : Nat) => (Sum.inl (i : Int) : Key)
  k2 : kvs2.map (·.1) = ks.map fun (i : Nat) => (Sum.inl (i : Int) : Key)
  nd : ks.Nodup
  at1 : ∀ i ∈ ks, PfT N (g i) ∧ (∃ v, valV kvs (.inl (i : Int)) = some v ∧ IsTh H v (g i)) ∧ ∃ v, valV kvs2 (.inl (i : Int)) = some v ∧ IsTh H v (.lst (flatT (g i)))
theorem DD.kp {H H' : Hp} {N : Nat} {ks : List Nat} {g : Nat → Th} {kvs kvs2 : List (Key × V)} (k : Kp H H') (d : DD H N ks g kvs kvs2) : DD H' N ks g kvs kvs2 :=
  ⟨d.k1, d.k2, d.nd, fun i hi => let ⟨a, ⟨v, b, c⟩, ⟨u, d, e⟩⟩ := d.at1 i hi; ⟨a, ⟨v, b, IsTh.kp k c⟩, ⟨u, d, IsTh.kp k e⟩⟩⟩
theorem in_keys {ks : List Nat} {i : Nat} (h : (Sum.inl (i : Int) : Key) ∈ ks.map fun (j : Nat) => (Sum.inl (j : Int) : Key)) : i ∈ ks := by
  obtain ⟨j, hj, e⟩ := List.mem_map.mp h
  have : j = i := by injection e with e; omega
  rw [← this]
  exact hj
theorem DD.no {H : Hp} {N : Nat} {ks : List Nat} {g : Nat → Th} {kvs kvs2 : List (Key × V)} (d : DD H N ks g kvs kvs2) {i : Nat} (h : i ∉ ks) : valV kvs (.inl (i : Int)) = none ∧ valV kvs2 (.inl (i : Int)) = none := by
  constructor
  · cases e : valV kvs (.inl (i : Int)) with
    | none => rfl
    | some v => exact absurd (in_keys (by rw [← d.k1]; exact valV_in e)) h
  · cases e : valV kvs2 (.inl (i : Int)) with
    | none => rfl
    | some v => exact absurd (in_keys (by rw [← d.k2]; exact valV_in e)) h
theorem keys_put {kvs : List (Key × V)} {k : Key} {v u : V} (h : valV kvs k = some u) : (putK kvs k v).map (·.1) = kvs.map (·.1) := by
  unfold putK
  rw [if_pos (by rw [valV_any, h]; rfl), List.map_map]
  refine List.map_congr_left fun x _ => ?_
  show (if x.1 = k then (x.1, v) else x).1 = x.1
  split <;> rfl
/-- a hole met again, with the same filling -/
theorem DD.again {H : Hp} {N : Nat} {ks : List Nat} {g : Nat → Th} {kvs kvs2 : List (Key × V)} (d : DD H N ks g kvs kvs2) {i : Nat} (h : i ∈ ks) {v : V} (hv : IsTh H v (g i)) : DD H N ks g (putK kvs (.inl (i : Int)) v) kvs2 := by
  obtain ⟨a, ⟨u, b, c⟩, d2⟩ := d.at1 i h
  refine ⟨by rw [keys_put b]; exact d.k1, d.k2, d.nd, fun j hj => ?_⟩
  obtain ⟨a', ⟨u', b', c'⟩, d'⟩ := d.at1 j hj
  refine ⟨a', ?_, d'⟩
  rw [valV_put]
  by_cases e : j = i
  · subst e
    rw [if_pos rfl]
    exact ⟨v, rfl, hv⟩
  · rw [if_neg (fun z => e (by injection z with z; omega))]
    exact ⟨u', b', c'⟩
/-- a hole met for the first time -/
theorem DD.more {H : Hp} {N : Nat} {ks : List Nat} {g : Nat → Th} {kvs kvs2 : List (Key × V)} (d : DD H N ks g kvs kvs2) {i : Nat} (h : i ∉ ks) {v u : V} {t : Th} (hp : PfT N t) (hv : IsTh H v t) (hu : IsTh H u (.lst (flatT t))) :
    DD H N (ks ++ [i]) (fun j => if j = i then t else g j) (putK kvs (.inl (i : Int)) v) (putK kvs2 (.inl (i : Int)) u) := by
  obtain ⟨n1, n2⟩ := d.no h
  refine ⟨?_, ?_, ?_, fun j hj => ?_⟩
  · rw [putK_new v n1, List.map_append, List.map_append, d.k1]; rfl
  · rw [putK_new u n2, List.map_append, List.map_append, d.k2]; rfl
  · rw [List.nodup_append]
    refine ⟨d.nd, by simp, fun a ha b hb => ?_⟩
    rw [List.mem_singleton] at hb
    subst hb
    exact fun z => h (z ▸ ha)
  · rw [valV_put, valV_put]
    by_cases e : j = i
    · subst e
      rw [if_pos rfl, if_pos rfl, if_pos rfl]
      exact ⟨hp, ⟨v, rfl, hv⟩, ⟨u, rfl, hu⟩⟩
    · have hne : ¬ (Sum.inl (j : Int) : Key) = Sum.inl (i : Int) := fun z => e (by injection z with z; omega)
      rw [if_neg hne, if_neg hne, if_neg e]
      exact d.at1 j (by
        rcases List.mem_append.mp hj with z | z
        · exact z
        · exact absurd (List.mem_singleton.mp z) e)
theorem off_kp {a b : Addr} {H H' : Hp} (k : Kp H H') : Kp (off a b H) (off a b H') := fun c o e n => by
  unfold off at e ⊢
  split at e
  · cases e
  · next h => rw [if_neg h]; exact k c o e n
theorem kp_dk {H : Hp} {a : Addr} {kvs kvs' : List (Key × V)} (h : H a = some (.dK kvs)) : Kp H (upd H a (.dK kvs')) := fun c o e n => by
  rw [upd_ne (fun z => by rw [z, h] at e; cases e; exact n _ rfl)]
  exact e
/-- sorted and the same members: the numbers from nought on -/
theorem sorted_range {ks : List Nat} {ns : List Int} {m : Nat} (nd : ks.Nodup) (hm : ∀ i, i ∈ ks ↔ i < m) (hp : ns.Perm (ks.map fun (i : Nat) => (i : Int))) (hs : ns.Pairwise (· ≤ ·)) : ns = (List.range m).map fun (i : Nat) => (i : Int) := by
  have p1 : ks.Perm (List.range m) := (List.perm_ext_iff_of_nodup nd List.nodup_range).mpr fun i => by rw [hm, List.mem_range]
  have p2 : ns.Perm ((List.range m).map fun (i : Nat) => (i : Int)) := hp.trans (p1.map _)
  refine p2.eq_of_pairwise (le := (· ≤ ·)) (fun a b _ _ h1 h2 => Int.le_antisymm h1 h2) hs ?_
  rw [List.pairwise_map]
  exact List.pairwise_lt_range.imp fun h => by omega
end K17

set_option Elab.async false
set_option linter.all false
set_option maxRecDepth 100000
set_option maxHeartbeats 4000000
namespace K17
open PySem L2
/-- got: the fillings, or None -/
def spGot (N : Nat) : Sp := fun vs H Q _ => ∃ (v1 v2 : V) (p f : Th) (m : Nat), vs = [v1, v2] ∧ Fm H v1 N p ∧ Fm H v2 N f ∧ m < 64 ∧ (∀ i, i ∈ hs p ↔ i < m) ∧
  ((∀ σ, Tps σ → fl σ p ≠ f) → ∀ H', Same H H' → Q .non H') ∧
  ∀ σ, Tps σ → fl σ p = f → ∀ (a : Addr) (ws : List V) H', Same H H' → H' a = some (.tup ws) → IsThs H' ws ((List.range m).map σ) → Q (.ref a) H'
theorem ths_of {H : Hp} : ∀ (vs : List V) (ts : List Th), vs.length = ts.length → (∀ (j : Nat) (v : V) (t : Th), vs[j]? = some v → ts[j]? = some t → IsTh H v t) → IsThs H vs ts := by
  intro vs
  induction vs with
  | nil => intro ts h _; rw [List.eq_nil_of_length_eq_zero h.symm]; exact .nil
  | cons v vs ih =>
    intro ts h k
    match ts, h with
    | t :: ts, h => exact .cons (k 0 v t rfl rfl) (ih ts (by simpa using h) fun j u x hu hx => k (j + 1) u x (by simpa using hu) (by simpa using hx))
mutual
theorem cnt_sz : ∀ t : Th, cnt t ≤ Th.sz t
  | .tup xs => by rw [cnt, Th.sz]; have := cnts_sz xs; omega
  | .at _ => by simp [cnt]
  | .lst _ => by simp [cnt]
theorem cnts_sz : ∀ ts : List Th, cnts ts ≤ szs ts
  | [] => by simp [cnts]
  | x :: xs => by rw [cnts, szs]; have := cnt_sz x; have := cnts_sz xs; omega
end
def msr : List (Th × Th) → Nat
  | [] => 0
  | e :: r => cnt e.1 + msr r
theorem msr_app : ∀ a b : List (Th × Th), msr (a ++ b) = msr a + msr b := by
  intro a
  induction a with
  | nil => intro b; simp [msr]
  | cons x a ih => intro b; rw [List.cons_append, msr, msr, ih]; omega
theorem msr_zip : ∀ {as bs : List Th}, as.length = bs.length → msr (as.zip bs) = cnts as := by
  intro as
  induction as with
  | nil => intro bs _; simp [msr, cnts]
  | cons a as ih =>
    intro bs h
    cases bs with
    | nil => simp at h
    | cons b bs => rw [List.zip_cons_cons, msr, cnts, ih (by simpa using h)]
theorem cnt_pf {n : Nat} {t : Th} (h : PfT n t) : 1 ≤ cnt t := by
  cases n with
  | zero => exact h.elim
  | succ n =>
    obtain ⟨w, hd, ks, rfl, _⟩ := h
    unfold nd
    rw [cnt]
    omega
def StOk2 (N : Nat) (e : Th × Th) : Prop := PfT N e.1 ∧ PfT N e.2 ∧ Th.sz e.1 ≤ 100000 ∧ Th.sz e.2 ≤ 100000
theorem msr_len {N : Nat} : ∀ st : List (Th × Th), (∀ e ∈ st, StOk2 N e) → st.length ≤ msr st := by
  intro st
  induction st with
  | nil => intro _; exact Nat.zero_le _
  | cons x st ih =>
    intro h
    have h1 := ih fun e he => h e (List.mem_cons_of_mem _ he)
    have h2 := cnt_pf (h x (List.mem_cons_self ..)).1
    rw [msr, List.length_cons]
    omega
theorem row_pl {n : Nat} {t : Th} (h : PfT n t) : plT (rowT t) = true ∧ dp (rowT t) ≤ 2 := by
  have hh : ∃ xs, t = .tup xs ∧ plTs (leadL xs) = true ∧ dps (leadL xs) ≤ 0 := by
    cases n with
    | zero => exact h.elim
    | succ n =>
      obtain ⟨w, hd, ks, rfl, h1, h2, h3, h4, h5, h6⟩ := h
      refine ⟨_, rfl, ?_, ?_⟩
      · rw [nd_lead fun k hk => (h6 k hk).isTup, plTs, plTs_all (a := hd.map Th.at) fun x hx => ?_, plT]
        · rfl
        · obtain ⟨v, hv, rfl⟩ := List.mem_map.mp hx
          exact h2 v hv
      · rw [nd_lead fun k hk => (h6 k hk).isTup]
        refine dps_le fun x hx => ?_
        rcases List.mem_cons.mp hx with rfl | hx
        · rw [L2.dp]; exact Nat.zero_le _
        · obtain ⟨v, _, rfl⟩ := List.mem_map.mp hx
          rw [L2.dp]; exact Nat.zero_le _
  obtain ⟨xs, rfl, a, b⟩ := hh
  unfold rowT
  dsimp only
  constructor
  · simp [plT, plTs, a]
  · rw [L2.dp, dps, L2.dp, dps, L2.dp, dps]
    omega
theorem flat_pl : ∀ (n : Nat) {t : Th}, PfT n t → ∀ x ∈ flatT t, plT x = true ∧ dp x ≤ 2 := by
  intro n
  induction n with
  | zero => intro t h; exact h.elim
  | succ n ih =>
    intro t h x hx
    have hr := row_pl h
    obtain ⟨w, hd, ks, rfl, h1, h2, h3, h4, h5, h6⟩ := h
    unfold nd at hx hr
    rw [flat_node, nd_kids fun k hk => (h6 k hk).isTup] at hx
    rcases List.mem_cons.mp hx with rfl | hx
    · exact hr
    · obtain ⟨l, hl, hx⟩ := List.mem_flatten.mp hx
      obtain ⟨k, hk, rfl⟩ := List.mem_map.mp hl
      exact ih (h6 k hk) x hx
theorem flat_fit {n : Nat} {t : Th} (h : PfT n t) : plTs (flatT t) = true ∧ dps (flatT t) ≤ 2 := ⟨plTs_all fun x hx => (flat_pl n h x hx).1, dps_le fun x hx => (flat_pl n h x hx).2⟩
mutual
theorem th_off {H : Hp} {a : Addr} {xs : List V} (h : H a = some (.lst xs)) : ∀ {v : V} {t : Th}, IsTh H v t → plT t = true → IsTh (off a a H) v t
  | _, _, .at f, _ => .at f
  | _, _, .tup e r, p => by
    rw [plT] at p
    have hn := ne_of e h (by intro q; cases q)
    exact .tup (off_in e hn hn) (ths_off h r p)
  | _, _, .lst e r, p => by rw [plT] at p; cases p
theorem ths_off {H : Hp} {a : Addr} {xs : List V} (h : H a = some (.lst xs)) : ∀ {vs : List V} {ts : List Th}, IsThs H vs ts → plTs ts = true → IsThs (off a a H) vs ts
  | _, _, .nil, _ => .nil
  | _, _, .cons e r, p => by
    rw [plTs, Bool.and_eq_true] at p
    exact .cons (th_off h e p.1) (ths_off h r p.2)
end
theorem few {ks : List Nat} {m : Nat} (nd : ks.Nodup) (h : ∀ i ∈ ks, i < m) : ks.length ≤ m := by
  have p : ks.Perm ((List.range m).filter fun i => decide (i ∈ ks)) := (List.perm_ext_iff_of_nodup nd (List.nodup_range.filter _)).mpr fun i => by
    rw [List.mem_filter, List.mem_range, decide_eq_true_eq]
    exact ⟨fun z => ⟨h i z, z⟩, fun z => z.2⟩
  rw [p.length_eq]
  have := List.length_filter_le (fun i => decide (i ∈ ks)) (List.range m)
  rw [List.length_range] at this
  exact this
theorem nd_fn : (["found", "number"] : List Str).Nodup := by decide +kernel
section
variable {P : Program} {w : World} {K : PySem.W.Frag} {mg : Str → Option Value} {base : Heap}
structure HG (K : PySem.W.Frag) (mg : Str → Option Value) (fF fA : Addr) (dF dA : FuncData) : Prop where
  F : Fun K "flat" "flat" sFlat fF dF
  bF : Binds K dF ["tree"] []
  mF : mg "flat" = some (.ref fF)
  A : Fun K "headed_alike" "headed_alike" sAlike fA dA
  bA : Binds K dA ["forms"] []
  mA : mg "headed_alike" = some (.ref fA)
  all : mg "all" = none
  lst : mg "list" = none
  zip : mg "zip" = none
  srt : mg "sorted" = none
theorem scGot : FnScope ["pattern", "other", "found", "kept", "waiting", "here", "form", "rows"] ["pattern", "other"] (defScope sGot) := ⟨rfl, rfl, rfl, by decide +kernel, rfl, by decide +kernel, by decide +kernel⟩
theorem ok_got {f fP fH fS fF fA : Addr} {fd dP dH dS dF dA : FuncData} (F : Fun K "got" "got" sGot f fd) (U : HT K mg fP fH fS dP dH dS) (W : HG K mg fF fA dF dA) (N : Nat) : FnOk P w K mg base CX0 4 f fd ["pattern", "other"] (spGot N) := by
  have GP : FnOk P w K mg base CX0 1 fP dP ["e"] spParts := ok_parts U.P U.T U.KI
  have GF : FnOk P w K mg base CX0 3 fF dF ["tree"] (spFlat N) := ok_flat W.F U N
  have GA : FnOk P w K mg base CX0 2 fA dA ["forms"] (spAlike N) := ok_alike W.A U W.all N
  refine F.ok scGot (fun vs H Q E h => ?_) (fun cdv A outer s H vs Q E hr h => ?_)
  · obtain ⟨v1, v2, p, f, m, rfl, _⟩ := h
    rfl
  · obtain ⟨v1, v2, p, f, m, rfl, f1, f2, hm, hh, k1, k2⟩ := h
    have hsz : sizeLine = 16777216 := sizeLine_eq
    have hr1 : Room 1 _ := hr.mono (by decide)
    have hr2 : Room 2 _ := hr.mono (by decide)
    have hr3 : Room 3 _ := hr.mono (by decide)
    have hu : (_ : Around).units + (2 + 1) < cLine := Nat.lt_of_le_of_lt (Nat.add_le_add_left (by decide) _) hr.units
    have hu1 : (_ : Around).units + 1 < cLine := Nat.lt_of_le_of_lt (Nat.add_le_add_left (by decide) _) hr.units
    refine' ⟨?tt, ?body, ?fin⟩
    case body =>
      refine' pss_cons ?s1 ?r1
      case s1 => exact ps_set (i := 2) scGot.nd rfl (Or.inr rfl) pe_dnewK
      case r1 =>
        refine' pss_cons ?s2 ?r2
        case s2 => exact ps_set (i := 3) scGot.nd rfl (Or.inl rfl) pe_dnewK
        case r2 =>
          refine' pss_cut ?s3 ?r3
          case s3 => exact ps_set (i := 4) scGot.nd rfl (Or.inl rfl) (pe_lst (pa_t (pe_tup (pa_n (pv 0) (pa_n (pv 1) pa_nil))) pa_nil))
          case r3 =>
            refine' pss_cons ?s4 (pss_one ?s5)
            case s4 =>
              refine' ps_while PassesOwn.never ?c (pss_cons ?b1 (pss_one ?b2))
              case c => exact pt_truth (pv 4) (fun _ => rfl)
              case b1 => exact ps_asg (pe_bm0 PySem.F.plainAttrs_list PySem.F.slot_list_pop PySem.F.type_list_pop mt_pop (pv 4)) (pg_tup rfl (pgs_cons (pg_name (i := 5) scGot.nd rfl (Or.inl rfl)) (pgs_cons (pg_name (i := 6) scGot.nd rfl (Or.inl rfl)) pgs_nil)))
              case b2 =>
                refine' ps_if ?d (pss_cons ?c1 (pss_cons ?c2 (pss_one ?c3))) (pss_one ?e1)
                case d => exact pt_cmpR op_eq (pe_ix ix_tup (pv 5) pe_int (fun _ _ => rfl)) pe_str (nomark _)
                case c1 => exact ps_set (i := 7) scGot.nd rfl (Or.inl rfl) (pe_call GF hr3 (by rfl) W.mF W.F.kp W.bF .nil pass0 (pa_n (pv 6) pa_nil))
                case c2 =>
                  refine' ps_if ?e (pss_one ?g) pss_nil
                  case e => exact pt_cmpR (op_neLs (K := K) rfl 2 hu) (pe_dsetd (pv 3) (pe_ix ix_tup (pv 5) pe_int (fun _ _ => rfl)) (pv 7) ⟨rfl, rfl, rfl, rfl⟩) (pv 7) (nomark _)
                  case g => exact ps_ret pe_non
                case c3 => exact ps_dput hu1 (pv 2) (pe_ix ix_tup (pv 5) pe_int (fun _ _ => rfl)) (pv 6) rfl
                case e1 =>
                  refine' ps_if ?e2 (pss_one ?g2) (pss_one ?g3)
                  case e2 => exact pt_val (pe_call GA hr2 (by rfl) W.mA W.A.kp W.bA .nil pass0 (pa_t (pe_tup (pa_n (pv 5) (pa_n (pv 6) pa_nil))) pa_nil))
                  case g2 =>
                    refine' ps_expr ?m
                    case m =>
                      refine' pe_bm PySem.F.plainAttrs_list PySem.F.slot_list_extend PySem.F.type_list_extend mt_extend (pv 4) ?a
                      case a =>
                        refine' pa_cons ?z pa_nil
                        case z => exact pe_lzip rfl (by rfl) W.lst (by rfl) W.zip (pa_c (pe_call GP hr1 (by rfl) U.mP U.P.kp U.bP .nil pass0 (pa_n (pv 5) pa_nil)) (pa_c (pe_call GP hr1 (by rfl) U.mP U.P.kp U.bP .nil pass0 (pa_n (pv 6) pa_nil)) pa_nil))
                  case g3 => exact ps_ret pe_non
            case s5 =>
              refine' ps_ret ?r
              case r =>
                refine' pe_callTy call_tuple_of (by rfl) U.T.tup (by decide +kernel) ?a2
                case a2 =>
                  refine' pa_cons ?c4 pa_nil
                  case c4 =>
                    refine' pe_comp (N' := ["found", "number"]) (src := [some 2, none]) ?k1 ?k5 ?k6 ?k7
                    case k1 => rfl
                    case k5 => exact compScope_of (defScope sGot) rfl ["pattern", "other", "found", "kept", "waiting", "here", "form", "rows"] rfl (by decide +kernel)
                    case k6 => exact pi_list (pe_callB (call_sorted_dict rfl) (by rfl) W.srt (by decide +kernel) (pa_n (pv 2) pa_nil))
                    case k7 =>
                      intro cl C ex s0 H0
                      exact ⟨pg_name (i := 1) nd_fn rfl (Or.inl rfl), pts_nil, pe_dget hu1 (pv 0) (pv 1) (fun _ _ => rfl)⟩
    case fin =>
      refine fun fa hfa => fun ka hka => ⟨fun σ' H' => ∃ wa p0, σ' = [some v1, some v2, some (.ref fa), some (.ref ka), some (.ref wa), none, none, none] ∧ H wa = none ∧ fa ≠ ka ∧ Same H H' ∧ H' fa = some (.dK []) ∧ H' ka = some (.dK []) ∧ H' wa = some (.lst [.ref p0]) ∧ H' p0 = some (.tup [v1, v2]), ?_, ?_⟩
      · refine ⟨_, rfl, _, rfl, (by show 2 ≤ sizeLine; decide), fun p0 hp0 => ⟨(by show 1 ≤ sizeLine; decide), fun wa hwa => ?_⟩⟩
        have z1 := same_upd (o := .dK []) hfa
        have z2 := same_upd (o := .dK []) hka
        have z3 := same_upd (o := .tup [v1, v2]) hp0
        have z4 := same_upd (o := .lst [.ref p0]) hwa
        have za := (z1.trans z2).trans z3
        refine ⟨wa, p0, rfl, same_none za hwa, fun z => ?_, za.trans z4, z4 _ _ (z3 _ _ (z2 _ _ upd_same)), z4 _ _ (z3 _ _ upd_same), upd_same, z4 _ _ upd_same⟩
        rw [← z, upd_same] at hka
        cases hka
      have hka0 : H ka = none := same_none (same_upd hfa) hka
      rintro σ0 H1 ⟨wa, p0, rfl, hwa, hfk, s1, F1, K1, W1, P1⟩
      refine while_m (fun mm σ H' => ∃ (ws : List V) (st : List (Th × Th)) (ks : List Nat) (g : Nat → Th) (kvs kvs2 : List (Key × V)) (o5 o6 o7 : Option V), σ = [some v1, some v2, some (.ref fa), some (.ref ka), some (.ref wa), o5, o6, o7] ∧ Same H H' ∧
          H' wa = some (.lst ws) ∧ IsThs (off wa wa H') ws (st.map pp) ∧ (∀ e ∈ st, StOk2 N e) ∧ H' fa = some (.dK kvs) ∧ H' ka = some (.dK kvs2) ∧ DD (off wa wa H') N ks g kvs kvs2 ∧
          (∀ σ, Tps σ → (fl σ p = f ↔ ((∀ i ∈ ks, σ i = g i) ∧ ∀ e ∈ st, fl σ e.1 = e.2))) ∧ (∀ i, i ∈ hs p ↔ (i ∈ ks ∨ ∃ e ∈ st, i ∈ hs e.1)) ∧ msr st ≤ 100000 ∧ mm = msr st)
        (msr [(p, f)]) ⟨[.ref p0], [(p, f)], [], fun _ => .tup [], [], [], none, none, none, rfl, s1, W1, ?_, ?_, F1, K1, ⟨rfl, rfl, List.nodup_nil, fun i hi => by cases hi⟩, ?_, ?_, ?_, rfl⟩ ?_ ?_
      · have hpw : p0 ≠ wa := ne_of P1 W1 (by intro q; cases q)
        exact .cons (.tup (off_in P1 hpw hpw) (.cons (IsTh.kp (Kp.of (off_of s1 hwa hwa)) f1.is) (.cons (IsTh.kp (Kp.of (off_of s1 hwa hwa)) f2.is) .nil))) .nil
      · intro e he
        rw [List.mem_singleton] at he
        subst he
        exact ⟨f1.pf, f2.pf, f1.sz, f2.sz⟩
      · intro σ _
        simp
      · intro i
        simp
      · have := cnt_sz p
        have := f1.sz
        simp only [msr]
        omega
      · rintro mm σ H2 ⟨ws, st, ks, g, kvs, kvs2, o5, o6, o7, rfl, s2, W2, hst, hall, F2, K2, dd, hsol, hhs, hms, rfl⟩
        refine ⟨_, rfl, _, .inl ⟨ws, SqL.of W2, rfl⟩, ?_⟩
        cases hws : ws.isEmpty with
        | true =>
          have e : ws = [] := List.isEmpty_iff.mp hws
          subst e
          refine iteF ?_
          have est : st = [] := by
            have := IsThs.len _ hst
            rw [List.length_map] at this
            exact List.eq_nil_of_length_eq_zero this.symm
          subst est
          have hin : ∀ i, i ∈ ks ↔ i < m := fun i => by
            rw [← hh i, hhs i]
            simp
          have hs2 : Tps (fun i => if i ∈ ks then g i else .tup []) := fun i => by
            show L2.isTup (if i ∈ ks then g i else .tup []) = true
            split
            · next h => exact (dd.at1 i h).1.isTup
            · rfl
          have hso : fl (fun i => if i ∈ ks then g i else .tup []) p = f := (hsol _ hs2).mpr ⟨fun i hi => by show (if i ∈ ks then g i else .tup []) = g i; rw [if_pos hi], fun e he => by cases he⟩
          have hkl : ks.length < 64 := by
            have p1 : ks.Perm (List.range m) := (List.perm_ext_iff_of_nodup dd.nd List.nodup_range).mpr fun i => by rw [hin, List.mem_range]
            rw [p1.length_eq, List.length_range]
            exact hm
          refine ⟨_, rfl, fa, kvs, ks.map fun (i : Nat) => (i : Int), rfl, F2, by rw [dd.k1, List.map_map]; rfl, by rw [List.length_map]; exact hkl, fun ns l pm srt hl => ⟨l, rfl, ⟨_, SqL.of upd_same⟩, ?_⟩⟩
          have ens := sorted_range dd.nd hin pm srt
          subst ens
          have sl := same_upd (o := .lst (((List.range m).map fun (i : Nat) => (i : Int)).map V.int)) hl
          refine comp_list (K := K) (a := l) (xs := ((List.range m).map fun (i : Nat) => (i : Int)).map V.int) (fun i ys σc H' => ∃ o, σc = [some (.ref fa), o] ∧ H' = upd H2 l (.lst (((List.range m).map fun (i : Nat) => (i : Int)).map V.int)) ∧ ys.length = i ∧ IsThs H2 ys ((List.range i).map fun i => if i ∈ ks then g i else .tup []))
            ⟨none, rfl, rfl, rfl, .nil⟩ (fun i ys σc H' ⟨_, _, e, _⟩ => by rw [e]; exact SqL.of upd_same) ?_ ?_
          · rintro i x ys σc H' hx hi ⟨o, rfl, rfl, hyl, hys⟩
            have hi' : i < m := by simpa using hi
            have ex : x = .int (i : Nat) := by
              rw [List.getElem?_map, List.getElem?_map, List.getElem?_range hi'] at hx
              cases hx
              rfl
            subst ex
            have hik := (hin i).mpr hi'
            obtain ⟨_, ⟨v, hv, hvt⟩, _⟩ := dd.at1 i hik
            refine ⟨by omega, _, rfl, _, rfl, fa, v, rfl, ?_, nx hi ⟨_, rfl, rfl, by rw [List.length_append, hyl]; rfl, ?_⟩⟩
            · have hd := DGet.k (k := .inl ((i : Nat) : Int)) (sl _ _ F2)
              rw [hv] at hd
              exact hd
            · rw [List.range_succ, List.map_append]
              refine IsThs.app _ hys (.cons ?_ .nil)
              show IsTh H2 v (if i ∈ ks then g i else .tup [])
              rw [if_pos hik]
              exact IsTh.kp (Kp.of off_sub) hvt
          · rintro ys σc H' ⟨o, rfl, rfl, hyl, hys⟩ l2 hl2
            have hyl' : ys.length = m := by simpa using hyl
            have s3 := same_upd (o := .lst ys) hl2
            refine ⟨l2, _, rfl, .inl ⟨SqL.of upd_same, fun q hq => ?_⟩⟩
            have s4 := same_upd (o := .tup ys) hq
            have sA := (sl.trans s3).trans s4
            refine k2 _ hs2 hso q ys _ (s2.trans sA) upd_same (IsThs.kp (Kp.of sA) ?_)
            have e2 : (((List.range m).map fun (i : Nat) => (i : Int)).map V.int).length = m := by simp
            rw [e2] at hys
            exact hys
        | false =>
          have hne : ws ≠ [] := fun z => by rw [z] at hws; cases hws
          obtain ⟨ws', st', t, u, a, vt, vu, rfl, rfl, hst', ha, hvt, hvu⟩ := pps_last hst hne
          refine iteT ?_
          refine ⟨_, rfl, .inl ⟨rfl, _, SqL.of W2⟩, wa, _, .ref a, rfl, rfl, W2, (by rw [List.length_append]; simp), ?_⟩
          rw [List.dropLast_concat]
          obtain ⟨pt, pu, zt, zu⟩ := hall (t, u) (List.mem_append_right _ (List.mem_singleton.mpr rfl))
          have hall' : ∀ x ∈ st', StOk2 N x := fun x hx => hall x (List.mem_append_left _ hx)
          have hat : upd H2 wa (.lst ws') a = some (.tup [vt, vu]) := by
            have h1 := off_sub _ _ ha
            rw [upd_ne (ne_of h1 W2 (by intro q; cases q))]
            exact h1
          refine ⟨a, [vt, vu], rfl, SqT.of hat, rfl, _, _, rfl, _, _, rfl, rfl, ?_⟩
          have eo : off wa wa (upd H2 wa (.lst ws')) = off wa wa H2 := off_upd2
          have Wx : upd H2 wa (.lst ws') wa = some (.lst ws') := upd_same
          have Fx : upd H2 wa (.lst ws') fa = some (.dK kvs) := by rw [upd_ne (ne_of F2 W2 (by intro q; cases q))]; exact F2
          have Kx : upd H2 wa (.lst ws') ka = some (.dK kvs2) := by rw [upd_ne (ne_of K2 W2 (by intro q; cases q))]; exact K2
          have sx : Same H (upd H2 wa (.lst ws')) := fun b ob e => by rw [upd_ne (ne_of_none e hwa)]; exact s2 b ob e
          rw [← eo] at hst' dd hvt hvu
          generalize upd H2 wa (.lst ws') = H3 at Wx Fx Kx sx hst' dd hvt hvu ⊢
          clear hst ha hat W2 F2 K2 s2 eo
          have hms' : msr st' + cnt t ≤ 100000 := by rw [msr_app] at hms; simpa [msr] using hms
          cases N with
          | zero => exact pt.elim
          | succ N' =>
          have pt0 := pt
          obtain ⟨w0, hd, kt, rfl, t1, t2, t3, t4, t5, t6⟩ := pt0
          obtain ⟨an, vns, evn, han, hvns⟩ := th_tup hvt
          have han3 := off_sub _ _ han
          subst evn
          cases hvns with
          | @cons vh vr _ _ c1 c2 =>
            obtain ⟨rfl, _⟩ := th_at c1
            refine ⟨_, rfl, an, _, 0, .str w0, rfl, rfl, SqT.of han3, at_head _ _, rfl, _, rfl, ite2 (fun g2 => ?_) (fun g2 => ?_)⟩
            · have hw0 : w0 = "hole" := by
                have g' := of_decide_eq_true g2
                injection g'
              subst hw0
              obtain ⟨i, rfl, rfl⟩ := t4 rfl
              have ehs : hs (nd "hole" [.int (i : Nat)] []) = [i] := hs_hole
              have efl : ∀ σ : Nat → Th, fl σ (nd "hole" [.int (i : Nat)] []) = σ i := fun σ => fl_hole
              have hct : 1 ≤ cnt (nd "hole" [.int (i : Nat)] []) := cnt_pf pt
              have hlt : msr st' < msr (st' ++ [(nd "hole" [.int (i : Nat)] [], u)]) := by
                rw [msr_app]
                show msr st' < msr st' + (cnt (nd "hole" [.int (i : Nat)] []) + 0)
                omega
              cases c2 with
              | @cons vi vr2 _ _ c3 c4 =>
                cases c4
                obtain ⟨rfl, _⟩ := th_at c3
                refine ⟨_, rfl, vu, u, rfl, IsTh.kp (Kp.of off_sub) hvu, pu.ok, zu, fun r rs H4 s4 hr0 hr4 hrs => ?_⟩
                have hrw : r ≠ wa := fun z => by rw [z, Wx] at hr0; cases hr0
                have o4 := off_same (a := wa) (b := wa) s4
                obtain ⟨fp1, fp2⟩ := flat_fit pu
                have dd4 := dd.kp (Kp.of o4)
                have W4 := s4 _ _ Wx
                have F4 := s4 _ _ Fx
                have K4 := s4 _ _ Kx
                have an4 := s4 _ _ han3
                have hvu4 := IsTh.kp (Kp.of o4) hvu
                have hst4 := IsThs.kp (Kp.of o4) hst'
                have sx4 := sx.trans s4
                have hrl4 : IsTh (off wa wa H4) (.ref r) (.lst (flatT u)) := by
                  refine .lst (off_in hr4 hrw hrw) (ths_off W4 hrs fp1)
                clear hrs hst' dd hvt hvu o4
                have hkl : kvs2.length < sizeLine := by
                  have e2 := congrArg List.length dd4.k2
                  rw [List.length_map, List.length_map] at e2
                  have e3 : ks.length ≤ m := few dd4.nd fun i hi => (hh i).mp ((hhs i).mpr (.inl hi))
                  omega
                refine ⟨_, rfl, ka, rfl, .inl ⟨_, .inl K4⟩, _, rfl, an, _, 1, .int (i : Nat), rfl, rfl, SqT.of an4, at_next _ _ _, _, rfl, kvs2, .inl ((i : Nat) : Int), K4, rfl, hkl, fun v2' hv2 => ?_, fun hn2 => ?_⟩
                · have hik : i ∈ ks := by
                    by_cases z : i ∈ ks
                    · exact z
                    · rw [(dd4.no z).2] at hv2
                      cases hv2
                  obtain ⟨pg, ⟨va, ea, ta⟩, ⟨vb, eb, tb⟩⟩ := dd4.at1 i hik
                  rw [eb] at hv2
                  cases hv2
                  obtain ⟨gp1, gp2⟩ := flat_fit pg
                  refine ⟨_, rfl, flatT (g i), flatT u, IsTh.kp (Kp.of off_sub) tb, IsTh.kp (Kp.of off_sub) hrl4, gp1, fp1, gp2, fp2, fun e => ⟨_, rfl, iteF ?_⟩, fun ne => ⟨_, rfl, iteT ?_⟩⟩
                  · have egu : g i = u := flat_eq pg pu e
                    refine ⟨_, rfl, _, rfl, _, rfl, an, _, 1, .int (i : Nat), rfl, rfl, SqT.of an4, at_next _ _ _, fa, _, rfl, DPut.k (k := .inl ((i : Nat) : Int)) F4 ?_, ?_⟩
                    · have e2 := congrArg List.length dd4.k1
                      rw [List.length_map, List.length_map] at e2
                      have e3 : ks.length ≤ m := few dd4.nd fun i hi => (hh i).mp ((hhs i).mpr (.inl hi))
                      omega
                    · have kp := off_kp (a := wa) (b := wa) (kp_dk (kvs' := putK kvs (.inl ((i : Nat) : Int)) vu) F4)
                      refine ⟨msr st', hlt, ws', st', ks, g, _, kvs2, _, _, _, rfl, ?_, ?_, IsThs.kp kp hst4, hall', upd_same, ?_, (dd4.again hik (by rw [egu]; exact hvu4)).kp kp, ?_, ?_, by omega, rfl⟩
                      · intro b ob e2
                        rw [upd_ne (ne_of_none e2 hfa)]
                        exact sx4 _ _ e2
                      · rw [upd_ne (ne_of W4 F4 (by intro q; cases q))]
                        exact W4
                      · rw [upd_ne hfk.symm]
                        exact K4
                      · intro σ hσ
                        rw [hsol σ hσ]
                        constructor
                        · rintro ⟨q1, q2⟩
                          exact ⟨q1, fun e he => q2 e (List.mem_append_left _ he)⟩
                        · rintro ⟨q1, q2⟩
                          refine ⟨q1, fun e he => ?_⟩
                          rcases List.mem_append.mp he with z | z
                          · exact q2 e z
                          · rw [List.mem_singleton] at z
                            subst z
                            show fl σ (nd "hole" [.int (i : Nat)] []) = u
                            rw [efl, q1 i hik, egu]
                      · intro j
                        rw [hhs j]
                        constructor
                        · rintro (z | ⟨e, he, z⟩)
                          · exact .inl z
                          · rcases List.mem_append.mp he with y | y
                            · exact .inr ⟨e, y, z⟩
                            · rw [List.mem_singleton] at y
                              subst y
                              have z' : j ∈ hs (nd "hole" [.int (i : Nat)] []) := z
                              rw [ehs, List.mem_singleton] at z'
                              rw [z']
                              exact .inl hik
                        · rintro (z | ⟨e, he, z⟩)
                          · exact .inl z
                          · exact .inr ⟨e, List.mem_append_left _ he, z⟩
                  · refine k1 (fun σ hσ hf => ?_) _ sx4
                    obtain ⟨q1, q2⟩ := (hsol σ hσ).mp hf
                    have q3 := q2 (nd "hole" [.int (i : Nat)] [], u) (List.mem_append_right _ (List.mem_singleton.mpr rfl))
                    rw [efl, q1 i hik] at q3
                    exact ne (by rw [q3])
                · have hik : i ∉ ks := fun z => by
                    obtain ⟨_, _, ⟨vb, eb, _⟩⟩ := dd4.at1 i z
                    rw [eb] at hn2
                    cases hn2
                  have kp1 := kp_dk (kvs' := putK kvs2 (.inl ((i : Nat) : Int)) (.ref r)) K4
                  have F5 : upd H4 ka (.dK (putK kvs2 (.inl ((i : Nat) : Int)) (.ref r))) fa = some (.dK kvs) := by rw [upd_ne hfk]; exact F4
                  have an5 := kp1 _ _ an4 (by intro kvs q; cases q)
                  have W5 := kp1 _ _ W4 (by intro kvs q; cases q)
                  have hrl5 := IsTh.kp (kp1.trans (Kp.refl _)) (IsTh.kp (Kp.of off_sub) hrl4)
                  refine ⟨_, rfl, flatT u, flatT u, hrl5, hrl5, fp1, fp1, fp2, fp2, fun e => ⟨_, rfl, iteF ?_⟩, fun ne => absurd rfl ne⟩
                  refine ⟨_, rfl, _, rfl, _, rfl, an, _, 1, .int (i : Nat), rfl, rfl, SqT.of an5, at_next _ _ _, fa, _, rfl, DPut.k (k := .inl ((i : Nat) : Int)) F5 ?_, ?_⟩
                  · have e2 := congrArg List.length dd4.k1
                    rw [List.length_map, List.length_map] at e2
                    have e3 : ks.length ≤ m := few dd4.nd fun i hi => (hh i).mp ((hhs i).mpr (.inl hi))
                    omega
                  · have kp2 := kp1.trans (kp_dk (kvs' := putK kvs (.inl ((i : Nat) : Int)) vu) F5)
                    have kp := off_kp (a := wa) (b := wa) kp2
                    refine ⟨msr st', hlt, ws', st', ks ++ [i], _, _, _, _, _, _, rfl, ?_, ?_, IsThs.kp kp hst4, hall', upd_same, ?_, (dd4.more hik pu hvu4 hrl4).kp kp, ?_, ?_, by omega, rfl⟩
                    · intro b ob e2
                      rw [upd_ne (ne_of_none e2 hfa), upd_ne (ne_of_none e2 hka0)]
                      exact sx4 _ _ e2
                    · rw [upd_ne (ne_of W5 F5 (by intro q; cases q))]
                      exact W5
                    · rw [upd_ne hfk.symm, upd_same]
                    · intro σ hσ
                      rw [hsol σ hσ]
                      constructor
                      · rintro ⟨q1, q2⟩
                        refine ⟨fun j hj => ?_, fun e he => q2 e (List.mem_append_left _ he)⟩
                        have q3 := q2 (nd "hole" [.int (i : Nat)] [], u) (List.mem_append_right _ (List.mem_singleton.mpr rfl))
                        rw [efl] at q3
                        show σ j = if j = i then u else g j
                        by_cases z : j = i
                        · rw [if_pos z, z]; exact q3
                        · rw [if_neg z]
                          rcases List.mem_append.mp hj with y | y
                          · exact q1 j y
                          · exact absurd (List.mem_singleton.mp y) z
                      · rintro ⟨q1, q2⟩
                        refine ⟨fun j hj => ?_, fun e he => ?_⟩
                        · have q3 : σ j = if j = i then u else g j := q1 j (List.mem_append_left _ hj)
                          rw [if_neg (fun (z : j = i) => hik (z ▸ hj))] at q3
                          exact q3
                        · rcases List.mem_append.mp he with z | z
                          · exact q2 e z
                          · rw [List.mem_singleton] at z
                            subst z
                            show fl σ (nd "hole" [.int (i : Nat)] []) = u
                            have q3 : σ i = if i = i then u else g i := q1 i (List.mem_append_right _ (List.mem_singleton.mpr rfl))
                            rw [if_pos rfl] at q3
                            rw [efl, q3]
                    · intro j
                      rw [hhs j]
                      constructor
                      · rintro (z | ⟨e, he, z⟩)
                        · exact .inl (List.mem_append_left _ z)
                        · rcases List.mem_append.mp he with y | y
                          · exact .inr ⟨e, y, z⟩
                          · rw [List.mem_singleton] at y
                            subst y
                            have z' : j ∈ hs (nd "hole" [.int (i : Nat)] []) := z
                            rw [ehs] at z'
                            exact .inl (List.mem_append_right _ z')
                      · rintro (z | ⟨e, he, z⟩)
                        · rcases List.mem_append.mp z with y | y
                          · exact .inl y
                          · exact .inr ⟨_, List.mem_append_right _ (List.mem_singleton.mpr rfl), by show j ∈ hs (nd "hole" [.int (i : Nat)] []); rw [ehs]; exact y⟩
                        · exact .inr ⟨e, List.mem_append_left _ he, z⟩
            · have hw0 : w0 ≠ "hole" := fun z => g2 (by rw [z]; decide +kernel)
              have pu0 := pu
              obtain ⟨w1, hd1, ku, rfl, u1, u2, u3, u4, u5, u6⟩ := pu0
              have nt : ∀ k ∈ kt, L2.isTup k = true := fun k hk => (t6 k hk).isTup
              have nu : ∀ k ∈ ku, L2.isTup k = true := fun k hk => (u6 k hk).isTup
              have hfn : ∀ σ, Tps σ → (fl σ (nd w0 hd kt) = nd w1 hd1 ku ↔ (lk (nd w0 hd kt) = lk (nd w1 hd1 ku) ∧ ∀ e ∈ kt.zip ku, fl σ e.1 = e.2)) := fun σ hσ => fl_node hσ hw0 t6 u6
              refine ⟨_, rfl, _, rfl, (by show 2 ≤ sizeLine; decide), fun q hq => ?_⟩
              have sq := same_upd (o := .tup [.ref an, vu]) hq
              refine ⟨q, .ref an, vu, nd w0 hd kt, nd w1 hd1 ku, rfl, upd_same, ⟨IsTh.kp (Kp.of (off_sub.trans sq)) hvt, pt, zt⟩, ⟨IsTh.kp (Kp.of (off_sub.trans sq)) hvu, pu, zu⟩, fun H4 s4 => ⟨fun el => ⟨_, rfl, iteT ?_⟩, fun nl => ⟨_, rfl, iteF ?_⟩⟩⟩
              · have sA := sq.trans s4
                have oA := off_same (a := wa) (b := wa) sA
                have W4 := sA _ _ Wx
                have hvt4 := IsTh.kp (Kp.of oA) hvt
                have hvu4 := IsTh.kp (Kp.of oA) hvu
                have lkl : kt.length = ku.length := by
                  rw [lk_nd nt, lk_nd nu] at el
                  exact congrArg Prod.snd el
                have lim : ∀ {w : Str} {hd : List V} {ks : List Th}, hd.length ≤ 1 → ks.length ≤ 6 → (Th.at (.str w) :: (hd.map Th.at ++ ks)).length ≤ 1000000 := fun {w hd ks} a b => by
                  rw [List.length_cons, List.length_append, List.length_map]; omega
                refine ⟨_, rfl, .inl ⟨rfl, _, SqL.of W4⟩, _, rfl, off wa wa H4, .ref an, _, rfl, off_sub, hvt4, lim t1 t5, fun p1 ws1 H5 s5 hp5 hw5 => ?_⟩
                refine ⟨_, rfl, off wa wa H4, vu, _, rfl, off_sub.trans s5, hvu4, lim u1 u5, fun p2 ws2 H6 s6 hp6 hw6 => ?_⟩
                rw [nd_kids nt] at hw5
                rw [nd_kids nu] at hw6
                have l1 := IsThs.len _ hw5
                have l2 := IsThs.len _ hw6
                refine ⟨p1, p2, ws1, ws2, rfl, SqT.of (s6 _ _ hp5), SqT.of hp6, by omega, fun l H7 hl7 zp => ?_⟩
                have s7 : Same H6 H7 := fun b o e => zp.same b o (ne_of_none e hl7) e
                have sB := (s5.trans s6).trans s7
                have oB := off_same (a := wa) (b := wa) sB
                have W7 := sB _ _ W4
                obtain ⟨ps, pl, hl, pj⟩ := zp.ps
                have hnew : ∀ x ∈ st' ++ kt.zip ku, StOk2 (N' + 1) x := fun x hx => by
                  rcases List.mem_append.mp hx with z | z
                  · exact hall' x z
                  · have z1 := (List.of_mem_zip z).1
                    have z2 := (List.of_mem_zip z).2
                    refine ⟨(t6 _ z1).up, (u6 _ z2).up, ?_, ?_⟩
                    · have y1 := sz_mem (Th.at (.str w0) :: (hd.map Th.at ++ kt)) x.1 (List.mem_cons_of_mem _ (List.mem_append_right _ z1))
                      have y2 : Th.sz (nd w0 hd kt) = 1 + szs (Th.at (.str w0) :: (hd.map Th.at ++ kt)) := by unfold nd; rw [Th.sz]
                      have y3 : Th.sz (nd w0 hd kt) ≤ 100000 := zt
                      omega
                    · have y1 := sz_mem (Th.at (.str w1) :: (hd1.map Th.at ++ ku)) x.2 (List.mem_cons_of_mem _ (List.mem_append_right _ z2))
                      have y2 : Th.sz (nd w1 hd1 ku) = 1 + szs (Th.at (.str w1) :: (hd1.map Th.at ++ ku)) := by unfold nd; rw [Th.sz]
                      have y3 : Th.sz (nd w1 hd1 ku) ≤ 100000 := zu
                      omega
                have ecn : cnt (nd w0 hd kt) = 1 + cnts kt := by
                  unfold nd
                  rw [cnt, cnts_kids, nd_kids nt]
                have emz : msr (st' ++ kt.zip ku) = msr st' + cnts kt := by rw [msr_app, msr_zip lkl]
                have hlen := msr_len _ hnew
                rw [List.length_append, List.length_zip, lkl, Nat.min_self] at hlen
                have hwl := IsThs.len _ hst'
                rw [List.length_map] at hwl
                refine ⟨wa, l, ws', ps.map V.ref, rfl, rfl, W7, hl, by rw [List.length_map, pl]; omega, ?_⟩
                have eo : off wa wa (upd H7 wa (.lst (ws' ++ ps.map V.ref))) = off wa wa H7 := off_upd2
                refine ⟨msr (st' ++ kt.zip ku), ?_, ws' ++ ps.map V.ref, st' ++ kt.zip ku, ks, g, kvs, kvs2, _, _, _, rfl, ?_, upd_same, ?_, hnew, ?_, ?_, ?_, ?_, ?_, by omega, rfl⟩
                · rw [emz, msr_app]
                  show msr st' + cnts kt < msr st' + (cnt (nd w0 hd kt) + 0)
                  omega
                · intro b ob e
                  rw [upd_ne (ne_of_none e hwa)]
                  exact sB _ _ (sA _ _ (sx _ _ e))
                · rw [eo, List.map_append]
                  refine IsThs.app _ (IsThs.kp (Kp.of oB) (IsThs.kp (Kp.of oA) hst')) (ths_of _ _ ?_ fun j v t hv ht => ?_)
                  · rw [List.length_map, List.length_map, List.length_zip, pl]; omega
                  · rw [List.getElem?_map] at hv ht
                    obtain ⟨pa, hpa, rfl⟩ : ∃ pa, ps[j]? = some pa ∧ V.ref pa = v := by
                      cases e : ps[j]? with
                      | none => rw [e] at hv; cases hv
                      | some pa => rw [e] at hv; exact ⟨pa, rfl, by simpa using hv⟩
                    obtain ⟨e2, he2, rfl⟩ : ∃ e2, (kt.zip ku)[j]? = some e2 ∧ pp e2 = t := by
                      cases e : (kt.zip ku)[j]? with
                      | none => rw [e] at ht; cases ht
                      | some e2 => rw [e] at ht; exact ⟨e2, rfl, by simpa using ht⟩
                    obtain ⟨_, x, y, hx, hy, hpt⟩ := pj j pa hpa
                    obtain ⟨a1, a2, a3⟩ := ths_get _ hw5 hx
                    obtain ⟨b1, b2, b3⟩ := ths_get _ hw6 hy
                    have e3 := List.getElem?_zip_eq_some.mp he2
                    rw [a2] at e3
                    rw [b2] at e3
                    have e4 : a1 = e2.1 := by simpa using e3.1
                    have e5 : b1 = e2.2 := by simpa using e3.2
                    have hpw : pa ≠ wa := ne_of hpt W7 (by intro q; cases q)
                    refine .tup (off_in hpt hpw hpw) (.cons ?_ (.cons ?_ .nil))
                    · rw [← e4]; exact IsTh.kp (Kp.of oB) a3
                    · rw [← e5]; exact IsTh.kp (Kp.of oB) b3
                · have := sB _ _ (sA _ _ Fx)
                  rw [upd_ne (ne_of this W7 (by intro q; cases q))]
                  exact this
                · have := sB _ _ (sA _ _ Kx)
                  rw [upd_ne (ne_of this W7 (by intro q; cases q))]
                  exact this
                · rw [eo]
                  exact (dd.kp (Kp.of oA)).kp (Kp.of oB)
                · intro σ hσ
                  rw [hsol σ hσ]
                  constructor
                  · rintro ⟨q1, q2⟩
                    refine ⟨q1, fun e he => ?_⟩
                    rcases List.mem_append.mp he with z | z
                    · exact q2 e (List.mem_append_left _ z)
                    · exact ((hfn σ hσ).mp (q2 (nd w0 hd kt, nd w1 hd1 ku) (List.mem_append_right _ (List.mem_singleton.mpr rfl)))).2 e z
                  · rintro ⟨q1, q2⟩
                    refine ⟨q1, fun e he => ?_⟩
                    rcases List.mem_append.mp he with z | z
                    · exact q2 e (List.mem_append_left _ z)
                    · rw [List.mem_singleton] at z
                      subst z
                      exact (hfn σ hσ).mpr ⟨el, fun e he => q2 e (List.mem_append_right _ he)⟩
                · intro j
                  rw [hhs j]
                  constructor
                  · rintro (z | ⟨e, he, z⟩)
                    · exact .inl z
                    · rcases List.mem_append.mp he with y | y
                      · exact .inr ⟨e, List.mem_append_left _ y, z⟩
                      · rw [List.mem_singleton] at y
                        subst y
                        obtain ⟨k, hk, hj⟩ := (hs_nd hw0).mp z
                        obtain ⟨n, hn⟩ := List.getElem?_of_mem hk
                        have hnl : n < kt.length := (List.getElem?_eq_some_iff.mp hn).1
                        refine .inr ⟨(k, ku[n]'(by omega)), List.mem_append_right _ ?_, hj⟩
                        refine List.mem_of_getElem? (i := n) (List.getElem?_zip_eq_some.mpr ⟨hn, List.getElem?_eq_getElem (by omega)⟩)
                  · rintro (z | ⟨e, he, z⟩)
                    · exact .inl z
                    · rcases List.mem_append.mp he with y | y
                      · exact .inr ⟨e, List.mem_append_left _ y, z⟩
                      · exact .inr ⟨_, List.mem_append_right _ (List.mem_singleton.mpr rfl), (hs_nd hw0).mpr ⟨e.1, (List.of_mem_zip y).1, z⟩⟩
              · refine k1 (fun σ hσ hf => ?_) _ (sx.trans (sq.trans s4))
                obtain ⟨q1, q2⟩ := (hsol σ hσ).mp hf
                have q3 := q2 (nd w0 hd kt, nd w1 hd1 ku) (List.mem_append_right _ (List.mem_singleton.mpr rfl))
                exact nl ((hfn σ hσ).mp q3).1
      · rintro σ H1 Q1 Q2 hq ⟨u1, e1, b1, e2, q⟩
        exact ⟨u1, e1, b1, e2, hq _ _ q⟩
end
end K17

set_option Elab.async false
set_option linter.all false
set_option maxRecDepth 100000
set_option maxHeartbeats 4000000
namespace K17
open PySem L2
/-! the feed: its dict and its list of cells -/
def feedKV (l : Addr) (n : Nat) (z : Int) : List (Key × V) := [(Sum.inr "cells", .ref l), (Sum.inr "at", .int n), (Sum.inr "left", .int z)]
structure Feed (H : Hp) (d l : Addr) (ns : List Int) (n : Nat) : Prop where
  dc : ∃ z, H d = some (.dK (feedKV l n z))
  ls : H l = some (.lst (ns.map V.int))
  sz : ns.length ≤ 63
/-- all but the feed's dict stays -/
def But (d : Addr) (H H' : Hp) : Prop := ∀ b o, H b = some o → b ≠ d → H' b = some o
theorem But.refl (d : Addr) (H : Hp) : But d H H := fun _ _ e _ => e
theorem But.trans {d : Addr} {H H1 H2 : Hp} (a : But d H H1) (b : But d H1 H2) : But d H H2 := fun c o e n => b c o (a c o e n) n
theorem But.of {d : Addr} {H H1 : Hp} (a : Same H H1) : But d H H1 := fun c o e _ => a c o e
theorem kv_cells (l : Addr) (n : Nat) (z : Int) : valV (feedKV l n z) (Sum.inr "cells") = some (.ref l) := by with_unfolding_all rfl
theorem kv_at (l : Addr) (n : Nat) (z : Int) : valV (feedKV l n z) (Sum.inr "at") = some (.int n) := by with_unfolding_all rfl
theorem kv_left (l : Addr) (n : Nat) (z : Int) : valV (feedKV l n z) (Sum.inr "left") = some (.int z) := by with_unfolding_all rfl
theorem put_at (l : Addr) (n : Nat) (z : Int) : putK (feedKV l n z) (Sum.inr "at") (.int ((n : Int) + 1)) = feedKV l (n + 1) z := by with_unfolding_all rfl
theorem put_left (l : Addr) (n : Nat) (z y : Int) : putK (feedKV l n z) (Sum.inr "left") (.int y) = feedKV l n y := by with_unfolding_all rfl

theorem get_cells {H : Hp} {d l : Addr} {n : Nat} {z : Int} (h : H d = some (.dK (feedKV l n z))) : DGet H d (.str "cells") (some (.ref l)) := by
  have := DGet.k (k := Sum.inr "cells") h; rw [kv_cells] at this; exact this
theorem get_at {H : Hp} {d l : Addr} {n : Nat} {z : Int} (h : H d = some (.dK (feedKV l n z))) : DGet H d (.str "at") (some (.int n)) := by
  have := DGet.k (k := Sum.inr "at") h; rw [kv_at] at this; exact this
theorem get_left {H : Hp} {d l : Addr} {n : Nat} {z : Int} (h : H d = some (.dK (feedKV l n z))) : DGet H d (.str "left") (some (.int z)) := by
  have := DGet.k (k := Sum.inr "left") h; rw [kv_left] at this; exact this
theorem set_at {H : Hp} {d l : Addr} {n : Nat} {z : Int} (h : H d = some (.dK (feedKV l n z))) : DPut H d (.str "at") (.int ((n : Int) + 1)) (upd H d (.dK (feedKV l (n + 1) z))) := by
  have := DPut.k (k := Sum.inr "at") (v := .int ((n : Int) + 1)) h (by show 3 < sizeLine; decide); rw [put_at] at this; exact this
theorem set_left {H : Hp} {d l : Addr} {n : Nat} {z y : Int} (h : H d = some (.dK (feedKV l n z))) : DPut H d (.str "left") (.int y) (upd H d (.dK (feedKV l n y))) := by
  have := DPut.k (k := Sum.inr "left") (v := .int y) h (by show 3 < sizeLine; decide); rw [put_left] at this; exact this
theorem Feed.ne {H : Hp} {d l : Addr} {ns : List Int} {n : Nat} (F : Feed H d l ns n) : l ≠ d := by
  obtain ⟨⟨z, h⟩, g, _⟩ := F
  exact ne_of g h (by intro q; cases q)
theorem Feed.but {H H' : Hp} {d l : Addr} {ns : List Int} {n m : Nat} {z : Int} (F : Feed H d l ns n) (b : But d H H') (h : H' d = some (.dK (feedKV l m z))) : Feed H' d l ns m := ⟨⟨z, h⟩, b l _ F.ls F.ne, F.sz⟩
theorem But.upd {d : Addr} {H : Hp} {o : HO} : But d H (upd H d o) := fun c u e n => by rw [upd_ne n]; exact e

def spFeed (K : PySem.W.Frag) : Sp := fun vs H Q _ => ∃ (a : Addr) (ns : List Int), vs = [.ref a] ∧ SqL K H a (ns.map V.int) ∧ ns.length ≤ 63 ∧ ∀ d l H', Feed H' d l ns 0 → H d = none → Same H H' → Q (.ref d) H'
def spDraw : Sp := fun vs H Q _ => ∃ (d l : Addr) (ns : List Int) (n : Nat) (m : Int), vs = [.ref d, .int m] ∧ Feed H d l ns n ∧ n ≤ 1000000000000 ∧ 0 < m ∧ m < 18446744073709551616 ∧
  ∀ r n' H', 0 ≤ r → r < m → n' ≤ n + 1 → Feed H' d l ns n' → But d H H' → Q (.int r) H'
theorem cut63 {ns : List Int} (h : ns.length ≤ 63) : cutV (ns.map V.int) none (some 63) = ns.map V.int := by
  have e1 : HT.sIx (ns.map V.int).length 0 none = 0 := rfl
  have e2 : HT.sIx (ns.map V.int).length (ns.map V.int).length (some 63) = min 63 (ns.map V.int).length := rfl
  unfold cutV
  rw [e1, e2, List.drop_zero, List.take_of_length_le]
  rw [List.length_map]; omega
theorem lo29 (x : Int) : -(2 ^ 64) < x % 2147483629 := by omega
theorem hi29 (x : Int) : x % 2147483629 < 2 ^ 64 := by omega
theorem flat_ints (ns : List Int) : (ns.map V.int).all flatV = true := by
  rw [List.all_map]; exact List.all_eq_true.mpr fun _ _ => rfl
theorem Feed.same {H H' : Hp} {d l : Addr} {ns : List Int} {n : Nat} (F : Feed H d l ns n) (s : Same H H') : Feed H' d l ns n := let ⟨⟨z, h⟩, g, q⟩ := F; ⟨⟨z, s _ _ h⟩, s _ _ g, q⟩
theorem small_len {xs : List V} (h : xs.length ≤ 1000) : xs.length ≤ sizeLine := Nat.le_trans h (by decide)
structure Txt0 (mg : Str → Option Value) : Prop where
  len : mg "len" = none
  list : mg "list" = none
  range : mg "range" = none
section
variable {P : Program} {w : World} {K : PySem.W.Frag} {mg : Str → Option Value} {base : Heap}
theorem scFeed : FnScope ["_law_script"] ["_law_script"] (defScope sFeed) := ⟨rfl, rfl, rfl, by decide +kernel, rfl, by decide +kernel, by decide +kernel⟩
theorem ok_feed {f : Addr} {fd : FuncData} (F : Fun K "_law_feed" "_law_feed" sFeed f fd) (T : Txt0 mg) : FnOk P w K mg base CX0 1 f fd ["_law_script"] (spFeed K) := by
  refine F.ok scFeed (fun vs H Q E h => ?_) (fun cdv A outer s H vs Q E hr h => ?_)
  · obtain ⟨a, ns, rfl, _⟩ := h
    rfl
  · obtain ⟨a, ns, rfl, hS, hl, k⟩ := h
    refine ⟨_, pss_one (ps_ret (pe_disp (pps_cons pe_str (pe_callTy call_list_of (by rfl) T.list (by rfl) (pa_cons (pe_slice sl_list (pv 0) po_none (po_some pe_int)) pa_nil)) (pps_cons pe_str pe_int (pps_cons pe_str pe_int pps_nil))) rfl rfl (by intro z; cases z) (by decide))), ?_⟩
    intro d hd
    refine ⟨_, rfl, _, rfl, a, _, rfl, (same_upd hd).seq hS, fun p hp => ?_⟩
    refine ⟨p, _, rfl, .inl (SqL.of upd_same), fun l hl' => ?_⟩
    have hdl : d ≠ l := ne_of_none (H := upd (upd H d (.dK [])) p (.lst (cutV (ns.map V.int) none (some 63)))) (by rw [upd_ne (ne_of_none upd_same hp)]; exact upd_same) hl'
    have hpd : p ≠ d := fun z => by rw [z, upd_same] at hp; cases hp
    refine ⟨by rw [upd_ne hdl, upd_ne hpd.symm]; exact upd_same, feedKV l 0 0, rfl, by show 3 ≤ 15; decide, ?_⟩
    have em : mergeK [] (feedKV l 0 0) = feedKV l 0 0 := by with_unfolding_all rfl
    rw [em]
    refine k d l _ ⟨⟨0, upd_same⟩, ?_, hl⟩ hd ?_
    · rw [upd_ne hdl.symm, upd_same, cut63 hl]
    · intro b o e
      have hb : (upd H d (.dK [])) b = some o := same_upd hd b o e
      have hb2 := same_upd (o := .lst (cutV (ns.map V.int) none (some 63))) hp b o hb
      rw [upd_ne (ne_of_none e hd)]
      exact same_upd hl' b o hb2
theorem scDraw : FnScope ["_law_feed_here", "_law_many", "_law_found", "_law_at", "_law_cell", "_law_number"] ["_law_feed_here", "_law_many"] (defScope sDraw) := ⟨rfl, rfl, rfl, by decide +kernel, rfl, by decide +kernel, by decide +kernel⟩
theorem ok_draw {f : Addr} {fd : FuncData} (F : Fun K "_law_draw" "_law_draw" sDraw f fd) (T : Txt0 mg) : FnOk P w K mg base CX0 1 f fd ["_law_feed_here", "_law_many"] spDraw := by
  refine F.ok scDraw (fun vs H Q E h => ?_) (fun cdv A outer s H vs Q E hr h => ?_)
  · obtain ⟨d, l, ns, n, m, rfl, _⟩ := h
    rfl
  · obtain ⟨d, l, ns, n, m, rfl, FD, hn, hm0, hm1, k⟩ := h
    have hu := hu_of hr
    have hu0 := hr.units0
    obtain ⟨⟨z, hd⟩, hls, hsz⟩ := id FD
    refine ⟨_, pss_cons (ps_if (pt_cmpR op_gt (pe_dget hu (pv 0) pe_str (fun _ _ => rfl)) pe_int (nomark _))
        (pss_cons (ps_set (i := 2) scDraw.nd rfl (Or.inl rfl) (pe_op op_mod (pe_dget hu (pv 0) pe_str (fun _ _ => rfl)) (pv 1))) <|
         pss_cons (ps_dput hu (pv 0) pe_str (pe_op op_fdivL (pe_dget hu (pv 0) pe_str (fun _ _ => rfl)) (pv 1)) rfl) <|
         pss_one (ps_ret (pv 2))) pss_nil) <|
      pss_cons (ps_set (i := 3) scDraw.nd rfl (Or.inl rfl) (pe_dget hu (pv 0) pe_str (fun _ _ => rfl))) <|
      pss_cons (ps_dput hu (pv 0) pe_str (pe_op op_add (pv 3) pe_int) rfl) <|
      pss_cons (ps_set (i := 4) scDraw.nd rfl (Or.inl rfl) (pe_op op_add (pe_op op_mul (pv 3) (pv 3)) pe_int)) <|
      pss_cut (ps_if (pt_cmpR (op_ne_list hu0) (pe_dget hu (pv 0) pe_str (fun _ _ => rfl)) (pe_lst pa_nil) (nomark _))
        (pss_one (ps_set (i := 4) scDraw.nd rfl (Or.inl rfl) (pe_ix ix_list (pe_dget hu (pv 0) pe_str (fun _ _ => rfl)) (pe_op op_mod (pv 3) (pe_callB call_len_seq (by rfl) T.len PySem.boot_len (pa_cons (pe_dget hu (pv 0) pe_str (fun _ _ => rfl)) pa_nil))) (fun _ _ => rfl)))) pss_nil) <|
      pss_cons (ps_if (pt_cmpR op_ge (pv 4) (pe_op op_pow pe_int pe_int) (nomark _))
        (pss_cons (ps_dput hu (pv 0) pe_str (pe_op op_fdivL (pv 4) (pv 1)) rfl) <| pss_one (ps_ret (pe_op op_mod (pv 4) (pv 1)))) pss_nil) <|
      pss_cons (ps_set (i := 5) scDraw.nd rfl (Or.inl rfl) (pe_op op_mod (pe_op op_mul (pe_op op_add (pe_op op_add (pe_op op_mod (pv 4) pe_int) (pe_op op_mul pe_int (pv 3))) pe_int) pe_int) pe_int)) <|
      pss_cons (ps_set (i := 5) scDraw.nd rfl (Or.inl rfl) (pe_op op_mod (pe_op op_add (pe_op op_add (pe_op op_mul (pv 5) (pv 5)) (pe_op op_mul pe_int (pv 3))) pe_int) pe_int)) <|
      pss_cons (ps_set (i := 5) scDraw.nd rfl (Or.inl rfl) (pe_op op_mod (pe_op op_add (pe_op op_mul (pv 5) pe_int) (pv 3)) pe_int)) <|
      pss_one (ps_ret (pe_op op_mod (pe_op op_fdivL (pe_op op_mod (pe_op op_mul (pv 5) (pv 5)) pe_int) pe_int) (pv 1))), ?_⟩
    refine ⟨_, rfl, d, .int z, rfl, get_left hd, _, _, rfl, rfl, _, rfl, ?_⟩
    refine ite2 (fun hz => ?_) (fun hz => ?_)
    · refine ⟨_, rfl, d, .int z, rfl, get_left hd, _, rfl, _, _, rfl, rfl, hm0, ?_⟩
      refine ⟨_, rfl, d, .int z, rfl, get_left hd, _, rfl, _, _, rfl, rfl, ⟨hm0, hm1⟩, _, rfl, d, _, rfl, set_left hd, _, rfl, ?_⟩
      exact k _ n _ (Int.emod_nonneg _ (by omega)) (Int.emod_lt_of_pos _ hm0) (Nat.le_succ _) (FD.but But.upd upd_same) But.upd
    · refine ⟨_, rfl, d, .int n, rfl, get_at hd, ?_⟩
      refine ⟨_, rfl, _, _, rfl, rfl, _, rfl, d, _, rfl, set_at hd, ?_⟩
      have hd1 : upd H d (.dK (feedKV l (n + 1) z)) d = some (.dK (feedKV l (n + 1) z)) := upd_same
      have F1 : Feed (upd H d (.dK (feedKV l (n + 1) z))) d l ns (n + 1) := FD.but But.upd upd_same
      have B1 : But d H (upd H d (.dK (feedKV l (n + 1) z))) := But.upd
      generalize upd H d (.dK (feedKV l (n + 1) z)) = H1 at hd1 F1 B1 ⊢
      have hls1 := F1.ls
      refine ⟨_, rfl, _, rfl, _, _, rfl, rfl, .inl ⟨by omega, by omega⟩, _, _, rfl, rfl, ?_⟩
      refine ⟨fun σ' H' => ∃ c o, σ' = [some (.ref d), some (.int m), o, some (.int n), some (.int c), none] ∧ Feed H' d l ns (n + 1) ∧ But d H H', ?_, ?_⟩
      · refine ⟨_, rfl, d, .ref l, rfl, get_cells hd1, Nat.zero_le _, fun e he => ⟨l, e, ns.map V.int, [], rfl, rfl, SqL.of (same_upd he _ _ hls1), SqL.of upd_same, flat_ints ns, rfl, _, rfl, ?_⟩⟩
        have F2 := F1.same (same_upd (o := .lst []) he)
        have B2 : But d H (upd H1 e (.lst [])) := B1.trans (But.of (same_upd he))
        obtain ⟨⟨z2, hd2⟩, hls2, _⟩ := id F2
        refine ite2 (fun hne => ?_) (fun hne => ?_)
        · have hpos : 0 < (ns.map V.int).length := by
            cases ns with
            | nil => exact absurd hne (by decide)
            | cons _ _ => exact Nat.succ_pos _
          obtain ⟨v, hv, hat⟩ := at_mod hpos (n : Int)
          obtain ⟨c, _, rfl⟩ := List.mem_map.mp hv
          refine ⟨_, rfl, d, .ref l, rfl, get_cells hd2, _, rfl, _, rfl, d, .ref l, rfl, get_cells hd2, l, ns.map V.int, rfl, .inl (SqL.of hls2), _, _, rfl, rfl, (by show (0 : Int) < ((ns.map V.int).length : Int); omega), l, ns.map V.int, _, .int c, rfl, rfl, SqL.of hls2, hat, ?_⟩
          exact ⟨c, none, rfl, F2, B2⟩
        · exact ⟨_, none, rfl, F2, B2⟩
      · rintro σ' H2 ⟨c, o, rfl, F2, B2⟩
        obtain ⟨⟨z2, hd2⟩, hls2, _⟩ := id F2
        refine ⟨_, rfl, _, _, rfl, rfl, ⟨by decide, by decide, by decide⟩, _, _, rfl, rfl, _, rfl, ?_⟩
        refine ite2 (fun hge => ?_) (fun hge => ?_)
        · refine ⟨_, rfl, _, rfl, _, _, rfl, rfl, ⟨hm0, hm1⟩, _, rfl, d, _, rfl, set_left hd2, _, rfl, _, rfl, _, _, rfl, rfl, hm0, ?_⟩
          exact k _ (n + 1) _ (Int.emod_nonneg _ (by omega)) (Int.emod_lt_of_pos _ hm0) (Nat.le_refl _) (F2.but But.upd upd_same) (B2.trans But.upd)
        · refine ⟨_, rfl, _, _, rfl, rfl, (by show (0 : Int) < 2147483647; decide), _, rfl, _, _, rfl, rfl, .inl ⟨by decide, by decide⟩, _, _, rfl, rfl, _, _, rfl, rfl, _, _, rfl, rfl, .inr ⟨by decide, by decide⟩, _, _, rfl, rfl, (by show (0 : Int) < 2147483629; decide), ?_⟩
          refine ⟨_, rfl, _, rfl, _, _, rfl, rfl, .inl ⟨lo29 _, hi29 _⟩, _, rfl, _, _, rfl, rfl, .inl ⟨by decide, by decide⟩, _, _, rfl, rfl, _, _, rfl, rfl, _, _, rfl, rfl, (by show (0 : Int) < 2147483647; decide), ?_⟩
          refine ⟨_, rfl, _, _, rfl, rfl, .inr ⟨by decide, by decide⟩, _, rfl, _, _, rfl, rfl, _, _, rfl, rfl, (by show (0 : Int) < 2147483629; decide), ?_⟩
          refine ⟨_, rfl, _, rfl, _, _, rfl, rfl, .inl ⟨lo29 _, hi29 _⟩, _, _, rfl, rfl, (by show (0 : Int) < 2147483587; decide), _, _, rfl, rfl, ⟨by decide, by decide⟩, _, rfl, _, _, rfl, rfl, hm0, ?_⟩
          exact k _ (n + 1) _ (Int.emod_nonneg _ (by omega)) (Int.emod_lt_of_pos _ hm0) (Nat.le_refl _) F2 B2
/-! a word spelled -/
/-- its length, and its first sign -/
def Low (t : Str) : Prop := ∀ c ∈ t.cps.toList, 97 ≤ c ∧ c ≤ 122
theorem low_nil : Low "" := by
  have e : ("" : Str).cps.toList = [] := by decide +kernel
  intro c hc
  rw [e] at hc
  cases hc
theorem low_app {x y : Str} (a : Low x) (b : Low y) : Low (x ++ y) := by
  intro c hc
  have e : (x ++ y).cps.toList = x.cps.toList ++ y.cps.toList := by
    show (x.cps ++ y.cps).toList = _
    rw [Array.toList_append]
  rw [e] at hc
  rcases List.mem_append.mp hc with z | z
  · exact a c z
  · exact b c z
theorem low_one {c : Nat} (h : 97 ≤ c ∧ c ≤ 122) : Low ⟨#[c]⟩ := by
  intro d hd
  have : d = c := by simpa using hd
  subst this
  exact h
def Spelled (t : Str) (x m : Int) : Prop := ((t.length : Int) = m ∧ Low t) ∧ (0 < m → t.cps.toList[0]? = some (97 + (x % 26).toNat))
def spSpelled : Sp := fun vs H Q _ => ∃ (x m : Int), vs = [.int x, .int m] ∧ 0 ≤ m ∧ m ≤ 10 ∧ ∀ t : Str, Spelled t x m → Q (.str t) H
abbrev abc : Str := "abcdefghijklmnopqrstuvwxyz"
theorem abc_at : ∀ k : Fin 26, abc.cps.toList[k.val]? = some (97 + k.val) := by decide +kernel
theorem abc_is (y : Int) : atI abc.cps.toList (y % 26) = some (97 + (y % 26).toNat) := by
  have h0 : 0 ≤ y % 26 := by omega
  have h1 : y % 26 < 26 := by omega
  have e : y % 26 = ((y % 26).toNat : Int) := by omega
  have h := atI_nat (abc_at ⟨(y % 26).toNat, by omega⟩)
  rw [← e] at h
  exact h
theorem scSpelled : FnScope ["_law_number", "_law_long", "_law_word", "_law_k"] ["_law_number", "_law_long"] (defScope sSpelled) := ⟨rfl, rfl, rfl, by decide +kernel, rfl, by decide +kernel, by decide +kernel⟩
theorem ok_spelled {f : Addr} {fd : FuncData} (F : Fun K "_law_spelled" "_law_spelled" sSpelled f fd) (T : Txt0 mg) : FnOk P w K mg base CX0 1 f fd ["_law_number", "_law_long"] spSpelled := by
  refine F.ok scSpelled (fun vs H Q E h => ?_) (fun cdv A outer s H vs Q E hr h => ?_)
  · obtain ⟨x, m, rfl, _⟩ := h
    rfl
  · obtain ⟨x, m, rfl, h0, h1, k⟩ := h
    refine ⟨_, pss_cons (ps_set (i := 2) scSpelled.nd rfl (Or.inl rfl) pe_str) <|
      pss_cons (ps_for PassesOwn.never rfl (pi_range1 rfl T.range (pa_cons (pv 1) pa_nil)) (pg_name (i := 3) scSpelled.nd rfl (Or.inl rfl))
        (pss_cons (ps_set (i := 2) scSpelled.nd rfl (Or.inl rfl) (pe_op op_add_str (pv 2) (pe_ix ix_str pe_str (pe_op op_mod (pv 0) pe_int) (fun _ _ => rfl)))) <|
         pss_one (ps_set (i := 0) scSpelled.nd rfl (Or.inl rfl) (pe_op op_fdivL (pv 0) pe_int)))) <|
      pss_one (ps_ret (pv 2)), ?_⟩
    refine ⟨_, rfl, m, rfl, by omega, by omega, for_range (n := m.toNat) (fun i σ H' => ∃ y t o, σ = [some (.int y), some (.int m), some (.str t), o] ∧ t.length = i ∧ Low t ∧ (i = 0 → y = x) ∧ (0 < i → t.cps.toList[0]? = some (97 + (x % 26).toNat)) ∧ H' = H) ⟨x, _, none, rfl, rfl, low_nil, fun _ => rfl, fun z => absurd z (Nat.lt_irrefl _), rfl⟩ ?_ ?_⟩
    · rintro i σ H' hi ⟨y, t, o, rfl, ht, hlow, hy, hf, rfl⟩
      have hat := abc_is y
      refine ⟨_, rfl, _, rfl, _, _, rfl, rfl, (by show (0 : Int) < 26; decide), abc, _, _, rfl, rfl, (by decide +kernel), hat, _, _, rfl, rfl, ?_, _, rfl, _, _, rfl, rfl, ⟨by decide, by decide⟩, ?_⟩
      · show t.length + 1 ≤ sizeLine
        have : sizeLine = 16777216 := sizeLine_eq
        omega
      · refine ⟨_, _, _, rfl, by rw [PySem.Str.length_append, ht]; rfl, low_app hlow (low_one (by omega)), fun z => absurd z (Nat.succ_ne_zero _), fun _ => ?_, rfl⟩
        show (t.cps ++ #[97 + (y % 26).toNat]).toList[0]? = _
        by_cases hz : i = 0
        · have h2 : t.cps.toList = [] := by
            apply List.eq_nil_of_length_eq_zero
            rw [Array.length_toList]
            show t.length = 0
            omega
          rw [Array.toList_append, h2, hy hz]
          rfl
        · have h2 := hf (by omega)
          rw [Array.toList_append, List.getElem?_append_left (by rw [Array.length_toList]; show 0 < t.length; omega)]
          exact h2
    · rintro σ H' ⟨y, t, o, rfl, ht, hlow, _, hf, rfl⟩
      exact ⟨_, rfl, k t ⟨⟨by omega, hlow⟩, fun z => hf (by omega)⟩⟩
end
end K17

set_option Elab.async false
set_option linter.all false
set_option maxRecDepth 100000
set_option maxHeartbeats 4000000
namespace K17
open PySem L2
instance (t : Str) : Decidable (Low t) := by unfold Low; exact inferInstance
theorem strs_flat (ts : List Str) : (ts.map V.str).all flatV = true := by
  rw [List.all_map]
  exact List.all_eq_true.mpr fun _ _ => rfl
theorem low_slice {x : Str} {lo hi : Option Int} (h : Low x) : Low (Txt.slice x lo hi) := by
  unfold Txt.slice
  split
  · exact h
  · intro c hc
    have hc' := hc
    simp only [List.mem_filterMap] at hc'
    obtain ⟨i, _, e⟩ := hc'
    refine h c ?_
    rw [Array.mem_toList_iff]
    exact Array.mem_of_getElem? e
def words8 : List Str := ["num", "name", "op", "pick", "let", "set", "say", "take"]
def words5 : List Str := ["do", "again", "call", "own", "hole"]
def words13 : List Str := words8 ++ words5
theorem words13_ok : ∀ t ∈ words13, (1 ≤ t.length ∧ t.length ≤ 5) ∧ Low t := by decide +kernel
theorem inV_strs (t : Str) (ts : List Str) : inV (.str t) (ts.map V.str) = true ↔ t ∈ ts := by
  unfold inV
  rw [List.any_map, List.any_eq_true]
  constructor
  · rintro ⟨y, hy, e⟩
    have e' : (y == t) = true := e
    rw [← beq_iff_eq.mp e']
    exact hy
  · intro h
    exact ⟨t, h, beq_self_eq_true t⟩
theorem But.lst {d a : Addr} {H H' : Hp} {kvs : List (Key × V)} {xs : List V} (b : But d H H') (hd : H d = some (.dK kvs)) (h : H a = some (.lst xs)) : H' a = some (.lst xs) := b a _ h (ne_of h hd (by intro q; cases q))
theorem app_len (x y : Str) : (x ++ y).length = x.length + y.length := PySem.Str.length_append x y
theorem len1000 {x : Str} (h : x.length ≤ 1000) : x.length ≤ sizeLine := Nat.le_trans h (by decide)
/-- a name's text as the drawing knows it -/
abbrev Nm (t : Str) : Prop := (1 ≤ t.length ∧ t.length ≤ 8) ∧ Low t
def spLawName : Sp := fun vs H Q _ => ∃ (d l a : Addr) (ns : List Int) (n : Nat) (ts : List Str), vs = [.ref d, .ref a] ∧ Feed H d l ns n ∧ n ≤ 900000000000 ∧ H a = some (.lst (ts.map V.str)) ∧ ts.length ≤ 40 ∧ (∀ t ∈ ts, Nm t) ∧
  ∀ (t : Str) n' H', Nm t → t ∉ ts → t ∉ words13 → n' ≤ n + 8 → Feed H' d l ns n' → But d H H' → Q (.str t) H'
/-- the first sign of a text that has one -/
theorem first_of {t : Str} (h : 1 ≤ t.length) : ∃ c, atI t.cps.toList 0 = some c := by
  have hl : t.cps.toList.length = t.length := by simp [Str.length]
  obtain ⟨c, _, e⟩ := at_in (xs := t.cps.toList) (i := 0) (by decide) (by rw [hl]; omega)
  exact ⟨c, e⟩
theorem low_at {t : Str} {i : Int} {c : Nat} (h : Low t) (e : atI t.cps.toList i = some c) : 97 ≤ c ∧ c ≤ 122 := by
  obtain ⟨j, _, e2, _⟩ := atI_get e
  exact h c (List.mem_of_getElem? e2)
/-- the turns of the search: number and length of turn i, from x and m on -/
def mi (m : Int) (i : Nat) : Int := (m - 1 + i) % 8 + 1
def KeyAt (x m : Int) (u : Str) (j : Nat) : Prop := (u.length : Int) = mi m j ∧ u.cps.toList[0]? = some (97 + ((x + j) % 26).toNat)
instance (x m : Int) (u : Str) (j : Nat) : Decidable (KeyAt x m u j) := by unfold KeyAt; exact inferInstance
theorem key_apart {x m : Int} {u : Str} {i j : Nat} (hi : i ≤ 60) (hj : j < i) (a : KeyAt x m u i) (b : KeyAt x m u j) : False := by
  obtain ⟨a1, a2⟩ := a
  obtain ⟨b1, b2⟩ := b
  unfold mi at a1 b1
  rw [a2] at b2
  have b3 := Option.some.inj b2
  have h1 : 0 ≤ (x + i) % 26 := by omega
  have h2 : 0 ≤ (x + j) % 26 := by omega
  omega
/-- what is still to be met of the names that are taken -/
structure Left (x m : Int) (ex R : List Str) (i : Nat) : Prop where
  few : R.length + i ≤ 54
  all : ∀ u ∈ ex, u ∈ R ∨ ∃ j, j < i ∧ KeyAt x m u j
theorem Left.zero {x m : Int} {ex : List Str} (h : ex.length ≤ 53) : Left x m ex ex 0 := ⟨by omega, fun u hu => .inl hu⟩
theorem Left.one {x m : Int} {ex R : List Str} (h : ex.length ≤ 53) : Left x m ex ex 1 := ⟨by omega, fun u hu => .inl hu⟩
theorem Left.next {x m : Int} {ex R : List Str} {i : Nat} {t : Str} (h : Left x m ex R i) (ht : t ∈ ex) (k : KeyAt x m t i) : Left x m ex (R.filter fun u => !decide (KeyAt x m u i)) (i + 1) := by
  have hR : t ∈ R := by
    rcases h.all t ht with z | ⟨j, hj, kj⟩
    · exact z
    · exact (key_apart (by have := h.few; omega) hj k kj).elim
  have hlt : (R.filter fun u => !decide (KeyAt x m u i)).length < R.length := by
    rw [List.length_filter_lt_length_iff_exists]
    exact ⟨t, hR, by simp [k]⟩
  refine ⟨by have := h.few; omega, fun u hu => ?_⟩
  rcases h.all u hu with z | ⟨j, hj, kj⟩
  · by_cases q : KeyAt x m u i
    · exact .inr ⟨i, Nat.lt_succ_self _, q⟩
    · exact .inl (List.mem_filter.mpr ⟨z, by simp [q]⟩)
  · exact .inr ⟨j, by omega, kj⟩
theorem ps_set9 {X : Cx} {i : Nat} {x : Str} {e : Expr} {te : TE} {pos pos' : Pos} (hN : X.N.Nodup) (hi : X.N[i]? = some x) (hx : Loc X.env.scope x) (he : PE X e te) (hs : swapsWith e (some (.Name x pos')) pos.line X.env = pure false) (hf : X.fn x = true ∨ X.env.scope.names.lookup x = some .local) :
    PS X (.Assign [.Name x pos'] e pos) (tAsg te (gName i)) := ps_set hN hi hx he hs hf
section
variable {P : Program} {w : World} {K : PySem.W.Frag} {mg : Str → Option Value} {base : Heap}
/-- the law's own helpers as they stand behind the top -/
structure Helpers (K : PySem.W.Frag) (mg : Str → Option Value) (fD fS : Addr) (dD dS : FuncData) : Prop where
  T : Txt0 mg
  D : Fun K "_law_draw" "_law_draw" sDraw fD dD
  bD : Binds K dD ["_law_feed_here", "_law_many"] []
  mD : mg "_law_draw" = some (.ref fD)
  S : Fun K "_law_spelled" "_law_spelled" sSpelled fS dS
  bS : Binds K dS ["_law_number", "_law_long"] []
  mS : mg "_law_spelled" = some (.ref fS)
theorem scLName : FnScope ["_law_feed_here", "_law_taken", "_law_words", "_law_way", "_law_long", "_law_number", "_law_name_here", "_law_word", "_law_at"] ["_law_feed_here", "_law_taken"] (defScope sName) := ⟨rfl, rfl, rfl, by decide +kernel, rfl, by decide +kernel, by decide +kernel⟩
/-- between two statements -/
def Mid (d l a wd : Addr) (ns : List Int) (n k : Nat) (ts : List Str) (H : Hp) (way m x : Int) : St → Hp → Prop := fun σ' H' => ∃ (t : Str) (n' : Nat) (o7 o8 : Option V),
  σ' = [some (.ref d), some (.ref a), some (.ref wd), some (.int way), some (.int m), some (.int x), some (.str t), o7, o8] ∧ Nm t ∧ n' ≤ n + k ∧ Feed H' d l ns n' ∧ H' a = some (.lst (ts.map V.str)) ∧ H' wd = some (.lst (words13.map V.str)) ∧ But d H H'
theorem ok_lawname {f fD fS : Addr} {fd dD dS : FuncData} (F : Fun K "_law_name" "_law_name" sName f fd) (U : Helpers K mg fD fS dD dS) : FnOk P w K mg base CX0 2 f fd ["_law_feed_here", "_law_taken"] spLawName := by
  have GD : FnOk P w K mg base CX0 1 fD dD ["_law_feed_here", "_law_many"] spDraw := ok_draw U.D U.T
  have GS : FnOk P w K mg base CX0 1 fS dS ["_law_number", "_law_long"] spSpelled := ok_spelled U.S U.T
  refine F.ok scLName (fun vs H Q E h => ?_) (fun cdv A outer s H vs Q E hr h => ?_)
  · obtain ⟨d, l, a, ns, n, ts, rfl, _⟩ := h
    rfl
  · obtain ⟨d, l, a, ns, n, ts, rfl, F0, hn, A0, hts, hall, k⟩ := h
    have hu0 := hr.units0
    have hsz : sizeLine = 16777216 := sizeLine_eq
    have hr1 : Room 1 _ := hr.mono (by decide)
    refine' ⟨?tt, ?body, ?fin⟩
    case body =>
      refine' pss_cons ?s1 (pss_cons ?s2 (pss_cons ?s3 (pss_cons ?s4 (pss_cons ?s5 (pss_cons ?s6 (pss_cut ?s7 (pss_cut ?s9 (pss_cut ?s10 (pss_cons ?s11 (pss_one ?s12))))))))))
      case s1 => exact ps_set (i := 2) scLName.nd rfl (Or.inl rfl) (pe_consts (vs := words8.map V.str) (by decide +kernel))
      case s2 => exact ps_set (i := 2) scLName.nd rfl (Or.inl rfl) (pe_op op_cat (pv 2) (pe_consts (vs := words5.map V.str) (by decide +kernel)))
      case s3 => exact ps_set (i := 3) scLName.nd rfl (Or.inl rfl) (pe_call GD hr1 (by rfl) U.mD U.D.kp U.bD .nil pass0 (pa_n (pv 0) (pa_k pe_int pa_nil)))
      case s4 => exact ps_set (i := 4) scLName.nd rfl (Or.inl rfl) (pe_op op_add pe_int (pe_call GD hr1 (by rfl) U.mD U.D.kp U.bD .nil pass0 (pa_n (pv 0) (pa_k pe_int pa_nil))))
      case s5 => exact ps_set (i := 5) scLName.nd rfl (Or.inl rfl) (pe_op op_add (pe_op op_mul (pe_call GD hr1 (by rfl) U.mD U.D.kp U.bD .nil pass0 (pa_n (pv 0) (pa_k pe_int pa_nil))) pe_int) (pe_call GD hr1 (by rfl) U.mD U.D.kp U.bD .nil pass0 (pa_n (pv 0) (pa_k pe_int pa_nil))))
      case s6 => exact ps_set (i := 6) scLName.nd rfl (Or.inl rfl) (pe_call GS hr1 (by rfl) U.mS U.S.kp U.bS .nil pass0 (pa_n (pv 5) (pa_n (pv 4) pa_nil)))
      case s7 =>
        refine' ps_if (pt_cmpR op_eq (pv 3) pe_int (nomark _)) (pss_one ?b) pss_nil
        case b =>
          refine' ps_set (i := 6) scLName.nd rfl (Or.inl rfl) (pe_op op_add_str ?l ?r)
          case l => exact pe_ix ix_list (pv 2) (pe_call GD hr1 (by rfl) U.mD U.D.kp U.bD .nil pass0 (pa_n (pv 0) (pa_k pe_int pa_nil))) (fun _ _ => rfl)
          case r => exact pe_ix ix_str (pv 6) pe_int (fun _ _ => rfl)
      case s9 =>
        refine' ps_if ?c (pss_one ?b) pss_nil
        case c => exact (pw_and (pt_cmpR op_eq (pv 3) pe_int (nomark _)) (pw_and1 (pt_cmpR (op_ne_list hu0) (pv 1) (pe_lst pa_nil) (nomark _)))).pt
        case b =>
          refine' ps_set (i := 6) scLName.nd rfl (Or.inl rfl) (pe_slice sl_str (pe_op op_add_str (pe_ix ix_list ?x ?y (fun _ _ => rfl)) ?z) po_none (po_some ?u))
          case x => exact pv 1
          case y => exact (pe_call GD hr1 (by rfl) U.mD U.D.kp U.bD .nil pass0 (pa_n (pv 0) (pa_c (pe_callB call_len_seq (by rfl) U.T.len PySem.boot_len (pa_n (pv 1) pa_nil)) pa_nil)))
          case z => exact pv 6
          case u => exact pe_op op_add pe_int (pe_op op_mod (pv 5) pe_int)
      case s10 =>
        refine' ps_if ?c (pss_cons ?b1 (pss_cons ?b2 (pss_one ?b3))) pss_nil
        case c => exact (pw_and (pt_cmpR op_eq (pv 3) pe_int (nomark _)) (pw_and1 (pt_cmpR (op_ne_list hu0) (pv 1) (pe_lst pa_nil) (nomark _)))).pt
        case b1 =>
          refine' ps_set (i := 7) scLName.nd rfl (Or.inl rfl) (pe_ix ix_list ?x ?y (fun _ _ => rfl))
          case x => exact pv 1
          case y => exact (pe_call GD hr1 (by rfl) U.mD U.D.kp U.bD .nil pass0 (pa_n (pv 0) (pa_c (pe_callB call_len_seq (by rfl) U.T.len PySem.boot_len (pa_n (pv 1) pa_nil)) pa_nil)))
        case b2 => exact ps_set (i := 8) scLName.nd rfl (Or.inl rfl) (pe_op op_mod (pv 5) (pe_callB call_len_str (by rfl) U.T.len PySem.boot_len (pa_n (pv 7) pa_nil)))
        case b3 =>
          refine' ps_set (i := 6) scLName.nd rfl (Or.inl rfl) (pe_op op_add_str (pe_op op_add_str ?x ?y) ?z)
          case x => exact pe_slice sl_str (pv 7) po_none (po_some (pv 8))
          case y => exact pe_ix ix_str (pv 6) pe_int (fun _ _ => rfl)
          case z => exact pe_slice sl_str (pv 7) (po_some (pe_op op_add (pv 8) pe_int)) po_none
      case s11 =>
        refine' ps_while PassesOwn.never ?c (pss_cons ?b1 (pss_cons ?b2 (pss_one ?b3)))
        case c => exact (pw_or (pt_cmpR op_in_seq (pv 6) (pv 1) (by with_unfolding_all rfl)) (pw_or1 (pt_cmpR op_in_seq (pv 6) (pv 2) (by with_unfolding_all rfl)))).pt
        case b1 => exact ps_set (i := 5) scLName.nd rfl (Or.inl rfl) (pe_op op_add (pv 5) pe_int)
        case b2 => exact ps_set (i := 4) scLName.nd rfl (Or.inl rfl) (pe_op op_add (pe_op op_mod (pv 4) pe_int) pe_int)
        case b3 => exact ps_set (i := 6) scLName.nd rfl (Or.inl rfl) (pe_call GS hr1 (by rfl) U.mS U.S.kp U.bS .nil pass0 (pa_n (pv 5) (pa_n (pv 4) pa_nil)))
      case s12 => exact ps_ret (pv 6)
    case fin =>
      -- words
      refine ⟨small_len (by decide +kernel), fun p hp => ?_⟩
      refine ⟨_, rfl, small_len (by decide +kernel), fun q hq => ⟨p, q, words8.map V.str, words5.map V.str, rfl, rfl, same_upd hq _ _ upd_same, upd_same, (by decide +kernel), fun wd hwd => ?_⟩⟩
      have s1 := ((same_upd (o := .lst (words8.map V.str)) hp).trans (same_upd (o := .lst (words5.map V.str)) hq)).trans (same_upd (o := .lst (words8.map V.str ++ words5.map V.str)) hwd)
      have W1 : upd (upd (upd H p (.lst (words8.map V.str))) q (.lst (words5.map V.str))) wd (.lst (words8.map V.str ++ words5.map V.str)) wd = some (.lst (words13.map V.str)) := by
        rw [upd_same, words13, List.map_append]
      have F1 := F0.same s1
      have A1 := s1 _ _ A0
      have B1 : But d H _ := But.of s1
      generalize upd (upd (upd H p (.lst (words8.map V.str))) q (.lst (words5.map V.str))) wd (.lst (words8.map V.str ++ words5.map V.str)) = H1 at W1 F1 A1 B1 ⊢
      -- way, long, number
      refine ⟨_, rfl, d, l, ns, n, _, rfl, F1, by omega, by decide, by decide, fun way n2 H2 _ _ hn2 F2 B2 => ?_⟩
      obtain ⟨z1, hd1⟩ := F1.dc
      have A2 := B2.lst hd1 A1
      have W2 := B2.lst hd1 W1
      have B2' := B1.trans B2
      refine ⟨_, rfl, d, l, ns, n2, _, rfl, F2, by omega, by decide, by decide, fun lg n3 H3 lg0 lg1 hn3 F3 B3 => ?_⟩
      obtain ⟨z2, hd2⟩ := F2.dc
      have A3 := B3.lst hd2 A2
      have W3 := B3.lst hd2 W2
      have B3' := B2'.trans B3
      refine ⟨_, _, rfl, rfl, ?_⟩
      refine ⟨_, rfl, d, l, ns, n3, _, rfl, F3, by omega, by decide, by decide, fun r4 n4 H4 r40 r41 hn4 F4 B4 => ?_⟩
      obtain ⟨z3, hd3⟩ := F3.dc
      have A4 := B4.lst hd3 A3
      have W4 := B4.lst hd3 W3
      have B4' := B3'.trans B4
      refine ⟨_, _, rfl, rfl, .inr ⟨by decide, by decide⟩, ?_⟩
      refine ⟨_, rfl, d, l, ns, n4, _, rfl, F4, by omega, by decide, by decide, fun r5 n5 H5 r50 r51 hn5 F5 B5 => ?_⟩
      obtain ⟨z4, hd4⟩ := F4.dc
      have A5 := B5.lst hd4 A4
      have W5 := B5.lst hd4 W4
      have B5' := B4'.trans B5
      refine ⟨_, _, rfl, rfl, ?_⟩
      have hx0 : 0 ≤ r4 * 456976 + r5 := by omega
      -- name = spelled(number, long)
      refine ⟨_, rfl, _, rfl, r4 * 456976 + r5, 1 + lg, rfl, by omega, by omega, fun t5 ht5 => ?_⟩
      obtain ⟨⟨hl5, hw5⟩, hf5⟩ := ht5
      have hm0 : 1 ≤ 1 + lg := by omega
      have hm1 : 1 + lg ≤ 8 := by omega
      -- if way == 0
      refine ⟨Mid d l a wd ns n 5 ts H way (1 + lg) (r4 * 456976 + r5), ?_, ?_⟩
      · refine ⟨_, rfl, rfl, _, rfl, ite2 (fun _ => ?_) (fun _ => ?_)⟩
        · refine ⟨_, rfl, _, rfl, d, l, ns, n5, _, rfl, F5, by omega, by decide, by decide, fun r6 n6 H6 r60 r61 hn6 F6 B6 => ?_⟩
          obtain ⟨z5, hd5⟩ := F5.dc
          have A6 := B6.lst hd5 A5
          have W6 := B6.lst hd5 W5
          obtain ⟨v6, hv6, hat6⟩ := at_in (xs := words13.map V.str) (i := r6) r60 (Int.lt_of_lt_of_le r61 (by decide +kernel))
          obtain ⟨t6, ht6, rfl⟩ := List.mem_map.mp hv6
          have h6 := words13_ok t6 ht6
          obtain ⟨c6, hc6⟩ := first_of (t := t5) (by omega)
          refine ⟨wd, words13.map V.str, r6, .str t6, rfl, rfl, SqL.of W6, hat6, ?_⟩
          refine ⟨_, rfl, t5, 0, c6, rfl, rfl, len1000 (by omega), hc6, ?_⟩
          refine ⟨t6, ⟨#[c6]⟩, rfl, rfl, (by show t6.length + 1 ≤ sizeLine; omega), ?_⟩
          exact ⟨_, n6, none, none, rfl, ⟨⟨by rw [app_len]; show 1 ≤ t6.length + 1; omega, by rw [app_len]; show t6.length + 1 ≤ 8; omega⟩, low_app h6.2 (low_one (low_at hw5 hc6))⟩, by omega, F6, A6, W6, B5'.trans B6⟩
        · exact ⟨t5, n5, none, none, rfl, ⟨⟨by omega, by omega⟩, hw5⟩, by omega, F5, A5, W5, B5'⟩
      generalize r4 * 456976 + r5 = x at hx0 ⊢
      generalize 1 + lg = m at hm0 hm1 ⊢
      rintro σ7 H7 ⟨t7, n7, o77, o78, rfl, ht7, hn7, F7, A7, W7, B7⟩
      obtain ⟨z7, hd7⟩ := F7.dc
      -- if way == 1 and taken != []
      refine ⟨Mid d l a wd ns n 7 ts H way m x, ?_, ?_⟩
      · refine ⟨_, rfl, rfl, _, rfl, ite2 (fun _ => ?_) (fun _ => iteF ⟨t7, n7, o77, o78, rfl, ht7, by omega, F7, A7, W7, B7⟩)⟩
        refine ⟨_, rfl, Nat.zero_le _, fun e he => ⟨a, e, ts.map V.str, [], rfl, rfl, SqL.of (same_upd he _ _ A7), SqL.of upd_same, strs_flat ts, rfl, _, rfl, ?_⟩⟩
        have se := same_upd (o := .lst []) he
        have F7' := F7.same se
        have A7' := se _ _ A7
        have W7' := se _ _ W7
        have B7' := B7.trans (But.of (d := d) se)
        obtain ⟨z7', hd7'⟩ := F7'.dc
        generalize upd H7 e (.lst []) = H7e at F7' A7' W7' B7' hd7' ⊢
        refine ite2 (fun hne => ?_) (fun _ => ⟨t7, n7, o77, o78, rfl, ht7, by omega, F7', A7', W7', B7'⟩)
        have hpos : 0 < (ts.map V.str).length := by
          cases ts with
          | nil => exact absurd hne (by decide)
          | cons _ _ => exact Nat.succ_pos _
        have hfew : (ts.map V.str).length ≤ 40 := by rw [List.length_map]; exact hts
        refine ⟨_, rfl, _, rfl, _, rfl, a, ts.map V.str, rfl, .inl (SqL.of A7'), d, l, ns, n7, _, rfl, F7', by omega, (by show (0 : Int) < ((ts.map V.str).length : Int); omega), (by show ((ts.map V.str).length : Int) < 18446744073709551616; omega), fun r8 n8 H8 r80 r81 hn8 F8 B8 => ?_⟩
        have A8 := B8.lst hd7' A7'
        have W8 := B8.lst hd7' W7'
        obtain ⟨v8, hv8, hat8⟩ := at_in (xs := ts.map V.str) (i := r8) r80 r81
        obtain ⟨t8, ht8, rfl⟩ := List.mem_map.mp hv8
        have h8 := hall t8 ht8
        refine ⟨a, ts.map V.str, r8, .str t8, rfl, rfl, SqL.of A8, hat8, ?_⟩
        refine ⟨_, rfl, t8, t7, rfl, rfl, (by omega), ?_⟩
        have hlen : (t8 ++ t7).length = t8.length + t7.length := app_len _ _
        refine ⟨_, rfl, _, _, rfl, rfl, (by show (0 : Int) < 8; decide), _, _, rfl, rfl, _, rfl, _, rfl, len1000 (by omega), ?_⟩
        have hj : 1 ≤ 1 + x % 8 := by omega
        have hj2 : 1 + x % 8 ≤ 8 := by omega
        have q1 := cut_pos (x := t8 ++ t7) (j := 1 + x % 8) (by omega) hj
        have q2 := cut_le (x := t8 ++ t7) (j := 1 + x % 8) (by omega)
        exact ⟨_, n8, o77, o78, rfl, ⟨⟨q1, by omega⟩, low_slice (low_app h8.2 ht7.2)⟩, by omega, F8, A8, W8, B7'.trans B8⟩
      rintro σ8 H8 ⟨t8, n8, o87, o88, rfl, ht8, hn8, F8, A8, W8, B8⟩
      obtain ⟨z8, hd8⟩ := F8.dc
      -- if way == 2 and taken != []
      refine ⟨Mid d l a wd ns n 8 ts H way m x, ?_, ?_⟩
      · refine ⟨_, rfl, rfl, _, rfl, ite2 (fun _ => ?_) (fun _ => iteF ⟨t8, n8, o87, o88, rfl, ht8, by omega, F8, A8, W8, B8⟩)⟩
        refine ⟨_, rfl, Nat.zero_le _, fun e he => ⟨a, e, ts.map V.str, [], rfl, rfl, SqL.of (same_upd he _ _ A8), SqL.of upd_same, strs_flat ts, rfl, _, rfl, ?_⟩⟩
        have se := same_upd (o := .lst []) he
        have F8' := F8.same se
        have A8' := se _ _ A8
        have W8' := se _ _ W8
        have B8' := B8.trans (But.of (d := d) se)
        obtain ⟨z8', hd8'⟩ := F8'.dc
        generalize upd H8 e (.lst []) = H8e at F8' A8' W8' B8' hd8' ⊢
        refine ite2 (fun hne => ?_) (fun _ => ⟨t8, n8, o87, o88, rfl, ht8, by omega, F8', A8', W8', B8'⟩)
        have hpos : 0 < (ts.map V.str).length := by
          cases ts with
          | nil => exact absurd hne (by decide)
          | cons _ _ => exact Nat.succ_pos _
        have hfew : (ts.map V.str).length ≤ 40 := by rw [List.length_map]; exact hts
        refine ⟨_, rfl, _, rfl, _, rfl, a, ts.map V.str, rfl, .inl (SqL.of A8'), d, l, ns, n8, _, rfl, F8', by omega, (by show (0 : Int) < ((ts.map V.str).length : Int); omega), (by show ((ts.map V.str).length : Int) < 18446744073709551616; omega), fun r9 n9 H9 r90 r91 hn9 F9 B9 => ?_⟩
        have A9 := B9.lst hd8' A8'
        have W9 := B9.lst hd8' W8'
        obtain ⟨v9, hv9, hat9⟩ := at_in (xs := ts.map V.str) (i := r9) r90 r91
        obtain ⟨t9, ht9, rfl⟩ := List.mem_map.mp hv9
        have h9 := hall t9 ht9
        refine ⟨a, ts.map V.str, r9, .str t9, rfl, rfl, SqL.of A9, hat9, ?_⟩
        refine ⟨_, rfl, _, rfl, t9, rfl, len1000 (by omega), _, _, rfl, rfl, (by show (0 : Int) < (t9.length : Int); omega), ?_⟩
        have at0 : 0 ≤ x % (t9.length : Int) := Int.emod_nonneg _ (by omega)
        have at1 : x % (t9.length : Int) < t9.length := Int.emod_lt_of_pos _ (by omega)
        obtain ⟨c9, hc9⟩ := first_of (t := t8) ht8.1.1
        have q1 := cut_le (x := t9) (j := x % (t9.length : Int)) at0
        have q2 := cut_from (x := t9) (i := x % (t9.length : Int) + 1) (by omega) (by omega)
        refine ⟨_, rfl, _, rfl, _, rfl, t9, rfl, len1000 (by omega), _, rfl, t8, 0, c9, rfl, rfl, len1000 (by omega), hc9, _, ⟨#[c9]⟩, rfl, rfl, (by show _ + 1 ≤ sizeLine; omega), ?_⟩
        have hlen : (Txt.slice t9 none (some (x % (t9.length : Int))) ++ (⟨#[c9]⟩ : Str)).length = (Txt.slice t9 none (some (x % (t9.length : Int)))).length + 1 := app_len _ _
        refine ⟨_, rfl, _, rfl, _, _, rfl, rfl, _, rfl, t9, rfl, len1000 (by omega), _, _, rfl, rfl, (by omega), ?_⟩
        exact ⟨_, n9, _, _, rfl, ⟨⟨by rw [app_len]; omega, by rw [app_len]; omega⟩, low_app (low_app (low_slice h9.2) (low_one (low_at ht8.2 hc9))) (low_slice h9.2)⟩, by omega, F9, A9, W9, B8'.trans B9⟩
      rintro σ9 H9 ⟨t9, n9, o97, o98, rfl, ht9, hn9, F9, A9, W9, B9⟩
      -- the search
      have hex : (ts ++ words13).length ≤ 53 := by
        rw [List.length_append]
        have : words13.length = 13 := by decide +kernel
        omega
      refine while_by (fun σ H' => ∃ (i : Nat) (R : List Str) (t : Str), σ = [some (.ref d), some (.ref a), some (.ref wd), some (.int way), some (.int (mi m i)), some (.int (x + i)), some (.str t), o97, o98] ∧ Nm t ∧ Left x m (ts ++ words13) R i ∧ (0 < i → KeyAt x m t i) ∧ H' = H9)
        (fun (σ : St) (_ : Hp) => match σ[5]? with | some (some (V.int z)) => (x + 100 - z).toNat | _ => 0) ⟨0, _, t9, ?_, ht9, Left.zero hex, fun z => absurd z (Nat.lt_irrefl _), rfl⟩ ?_ ?_
      · have e1 : mi m 0 = m := by unfold mi; omega
        have e2 : x + ((0 : Nat) : Int) = x := by omega
        rw [e1, e2]
      · rintro σ H' ⟨i, R, t, rfl, ht, hL, hK, rfl⟩
        have hi : i ≤ 54 := by have := hL.few; omega
        have e1 : mi m i % 8 + 1 = mi m (i + 1) := by unfold mi; omega
        have e2 : x + (i : Int) + 1 = x + ((i + 1 : Nat) : Int) := by omega
        have e3 : 1 ≤ mi m (i + 1) ∧ mi m (i + 1) ≤ 8 := by unfold mi; omega
        have body : t ∈ ts ++ words13 → ∀ t' : Str, Spelled t' (x + ((i + 1 : Nat) : Int)) (mi m (i + 1)) →
            ∃ R', Nm t' ∧ Left x m (ts ++ words13) R' (i + 1) ∧ (0 < i + 1 → KeyAt x m t' (i + 1)) := by
          intro hin t' ht'
          have hk : KeyAt x m t' (i + 1) := ⟨ht'.1.1, ht'.2 (by omega)⟩
          have hl := ht'.1.1
          by_cases hz : i = 0
          · subst hz
            exact ⟨_, ⟨⟨by omega, by omega⟩, ht'.1.2⟩, Left.one (R := R) hex, fun _ => hk⟩
          · exact ⟨_, ⟨⟨by omega, by omega⟩, ht'.1.2⟩, hL.next hin (hK (by omega)), fun _ => hk⟩
        refine ⟨_, rfl, _, rfl, a, ts.map V.str, rfl, .inl (SqL.of A9), rfl, strs_flat ts, _, rfl, ite2 (fun g => iteT ?_) (fun g => ?_)⟩
        · refine ⟨_, rfl, _, _, rfl, rfl, _, rfl, _, _, rfl, rfl, (by show (0 : Int) < 8; decide), _, _, rfl, rfl, _, rfl, _, rfl, _, _, rfl, (by rw [e1]; omega), (by rw [e1]; omega), fun t' ht' => ?_⟩
          rw [e1, e2] at ht'
          obtain ⟨R', q1, q2, q3⟩ := body (List.mem_append.mpr (.inl ((inV_strs t ts).mp g))) t' ht'
          refine ⟨⟨i + 1, R', t', ?_, q1, q2, q3, rfl⟩, ?_⟩
          · show [some (.ref d), some (.ref a), some (.ref wd), some (.int way), some (.int (mi m i % 8 + 1)), some (.int (x + i + 1)), some (.str t'), o97, o98] = _
            rw [e1, e2]
          · show (x + 100 - (x + i + 1)).toNat < (x + 100 - (x + i)).toNat
            omega
        · refine ⟨_, rfl, _, rfl, wd, words13.map V.str, rfl, .inl (SqL.of W9), rfl, strs_flat words13, _, rfl, ite2 (fun g2 => ?_) (fun g2 => ?_)⟩
          · refine ⟨_, rfl, _, _, rfl, rfl, _, rfl, _, _, rfl, rfl, (by show (0 : Int) < 8; decide), _, _, rfl, rfl, _, rfl, _, rfl, _, _, rfl, (by rw [e1]; omega), (by rw [e1]; omega), fun t' ht' => ?_⟩
            rw [e1, e2] at ht'
            obtain ⟨R', q1, q2, q3⟩ := body (List.mem_append.mpr (.inr ((inV_strs t words13).mp g2))) t' ht'
            refine ⟨⟨i + 1, R', t', ?_, q1, q2, q3, rfl⟩, ?_⟩
            · show [some (.ref d), some (.ref a), some (.ref wd), some (.int way), some (.int (mi m i % 8 + 1)), some (.int (x + i + 1)), some (.str t'), o97, o98] = _
              rw [e1, e2]
            · show (x + 100 - (x + i + 1)).toNat < (x + 100 - (x + i)).toNat
              omega
          · exact ⟨_, rfl, k t n9 _ ht (fun z => g ((inV_strs t ts).mpr z)) (fun z => g2 ((inV_strs t words13).mpr z)) hn9 F9 B9⟩
      · rintro σ H' Q1 Q2 hq ⟨v, f1, w1, f2, p, xs, f3, f4, f5, f6, c, f7, q⟩
        refine ⟨v, f1, w1, f2, p, xs, f3, f4, f5, f6, c, f7, ?_⟩
        cases c with
        | true => exact iteT (hq _ _ (by simpa using q))
        | false =>
          refine iteF ?_
          simp only [Bool.false_eq_true, if_false] at q
          obtain ⟨v, f1, w1, f2, p, xs, f3, f4, f5, f6, c, f7, q⟩ := q
          exact ⟨v, f1, w1, f2, p, xs, f3, f4, f5, f6, c, f7, hq _ _ q⟩
end
def spNames : Sp := fun vs H Q _ => ∃ (d l : Addr) (ns : List Int) (n : Nat) (m : Int), vs = [.ref d, .int m] ∧ Feed H d l ns n ∧ n ≤ 800000000000 ∧ 0 ≤ m ∧ m ≤ 40 ∧
  ∀ (nm : Addr) (ts : List Str) n' H', H nm = none → H' nm = some (.lst (ts.map V.str)) → (ts.length : Int) = m → (∀ t ∈ ts, Nm t) → n' ≤ n + 8 * m.toNat → Feed H' d l ns n' → But d H H' → Q (.ref nm) H'
section
variable {P : Program} {w : World} {K : PySem.W.Frag} {mg : Str → Option Value} {base : Heap}
theorem scNames : FnScope ["_law_feed_here", "_law_many", "_law_names_here", "_law_k"] ["_law_feed_here", "_law_many"] (defScope sNames) := ⟨rfl, rfl, rfl, by decide +kernel, rfl, by decide +kernel, by decide +kernel⟩
theorem ok_names {f fN fD fS : Addr} {fd dN dD dS : FuncData} (F : Fun K "_law_names" "_law_names" sNames f fd) (U : Helpers K mg fD fS dD dS)
    (FN : Fun K "_law_name" "_law_name" sName fN dN) (bN : Binds K dN ["_law_feed_here", "_law_taken"] []) (mN : mg "_law_name" = some (.ref fN)) : FnOk P w K mg base CX0 3 f fd ["_law_feed_here", "_law_many"] spNames := by
  have GN : FnOk P w K mg base CX0 2 fN dN ["_law_feed_here", "_law_taken"] spLawName := ok_lawname FN U
  refine F.ok scNames (fun vs H Q E h => ?_) (fun cdv A outer s H vs Q E hr h => ?_)
  · obtain ⟨d, l, ns, n, m, rfl, _⟩ := h
    rfl
  · obtain ⟨d, l, ns, n, m, rfl, F0, hn, hm0, hm1, k⟩ := h
    have hsz : sizeLine = 16777216 := sizeLine_eq
    refine ⟨_, pss_cons (ps_set (i := 2) scNames.nd rfl (Or.inl rfl) (pe_lst pa_nil)) <|
      pss_cons (ps_for PassesOwn.never rfl (pi_range1 (by rfl) U.T.range (pa_n (pv 1) pa_nil)) (pg_name (i := 3) scNames.nd rfl (Or.inl rfl))
        (pss_one (ps_expr (pe_bm PySem.F.plainAttrs_list PySem.F.slot_list_append PySem.F.type_list_append mt_append (pv 2) (pa_c (pe_call GN hr (by rfl) mN FN.kp bN .nil pass0 (pa_n (pv 0) (pa_n (pv 2) pa_nil))) pa_nil))))) <|
      pss_one (ps_ret (pv 2)), ?_⟩
    refine ⟨Nat.zero_le _, fun nm hnm => ?_⟩
    refine ⟨_, rfl, m, rfl, by omega, by omega, for_range (n := m.toNat) (fun i σ H' => ∃ (ts : List Str) (n' : Nat) (o : Option V), σ = [some (.ref d), some (.int m), some (.ref nm), o] ∧ ts.length = i ∧ (∀ t ∈ ts, Nm t) ∧ n' ≤ n + 8 * i ∧ Feed H' d l ns n' ∧ H' nm = some (.lst (ts.map V.str)) ∧ But d H H')
      ⟨[], n, none, rfl, rfl, (fun t ht => absurd ht List.not_mem_nil), Nat.le_refl _, F0.same (same_upd hnm), upd_same, But.of (same_upd hnm)⟩ ?_ ?_⟩
    · rintro i σ H' hi ⟨ts, n', o, rfl, hl, hall, hn', F', L', B'⟩
      refine ⟨_, rfl, .inl ⟨rfl, _, SqL.of L'⟩, _, rfl, _, rfl, d, l, nm, ns, n', ts, rfl, F', by omega, L', by omega, hall, fun t n2 H2 ht _ _ hn2 F2 B2 => ?_⟩
      obtain ⟨z, hd⟩ := F'.dc
      have L2 := B2.lst hd L'
      refine ⟨nm, _, _, rfl, rfl, L2, (by rw [List.length_map]; omega), ?_⟩
      have hne : nm ≠ d := (ne_of L2 (F2.dc.choose_spec) (by intro q; cases q))
      have hne2 : nm ≠ l := fun e => by
        have h0 : H l = some _ := F0.ls
        rw [← e, hnm] at h0
        cases h0
      refine ⟨ts ++ [t], n2, _, rfl, by rw [List.length_append, hl]; rfl, ?_, by omega, ?_, ?_, ?_⟩
      · intro u hu
        rcases List.mem_append.mp hu with z | z
        · exact hall u z
        · rw [List.mem_singleton.mp z]; exact ht
      · obtain ⟨⟨z2, hd2⟩, hls, hz⟩ := F2
        exact ⟨⟨z2, by rw [upd_ne (Ne.symm hne)]; exact hd2⟩, by rw [upd_ne (Ne.symm hne2)]; exact hls, hz⟩
      · rw [upd_same, List.map_append]; rfl
      · intro b u e hb
        rw [upd_ne (ne_of_none e hnm)]
        exact B2 b u (B' b u e hb) hb
    · rintro σ H' ⟨ts, n', o, rfl, hl, hall, hn', F', L', B'⟩
      exact ⟨_, rfl, k nm ts n' H' hnm L' (by omega) hall hn' F' B'⟩
end
end K17

set_option Elab.async false
set_option linter.all false
set_option maxRecDepth 100000
set_option maxHeartbeats 4000000
namespace K17
open PySem L2
theorem But.kp {d l : Addr} {ns : List Int} {n : Nat} {H H' : Hp} (b : But d H H') (F : Feed H d l ns n) : Kp H H' := by
  obtain ⟨⟨z, hd⟩, _, _⟩ := F
  intro a o h hk
  exact b a o h (fun q => by subst q; rw [hd] at h; cases h; exact hk _ rfl)
theorem Feed.lst {d l a : Addr} {ns : List Int} {n : Nat} {H H' : Hp} {xs : List V} (F : Feed H d l ns n) (b : But d H H') (h : H a = some (.lst xs)) : H' a = some (.lst xs) := by
  obtain ⟨⟨z, hd⟩, _, _⟩ := F
  exact b.lst hd h
def spValue : Sp := fun vs H Q _ => ∃ (d l : Addr) (ns : List Int) (n : Nat), vs = [.ref d] ∧ Feed H d l ns n ∧ n ≤ 900000000000 ∧
  ∀ (i : Int) n' H', 0 ≤ i → i ≤ 1000000000 → n' ≤ n + 3 → Feed H' d l ns n' → But d H H' → Q (.int i) H'
def spLawParts : Sp := fun vs H Q _ => ∃ (v : V) (w0 : Str) (ts : List Th), vs = [v] ∧ IsTh H v (.tup (.at (.str w0) :: ts)) ∧ ts.length ≤ 1000000 ∧
  ∀ (p : Addr) (ws : List V) H', Same H H' → H p = none → H' p = some (.lst ws) → IsThs H' ws (kidsL ts) → Q (.ref p) H'
/-- a node put together anew -/
def spWith : Sp := fun vs H Q _ => ∃ (v : V) (la : Addr) (ts ks : List Th) (ws : List V), vs = [v, .ref la] ∧ IsTh H v (.tup ts) ∧ ts.length ≤ 1000 ∧ H la = some (.lst ws) ∧ IsThs H ws ks ∧ ks.length ≤ 1000 ∧
  ∀ (p : Addr) H', Same H H' → IsTh H' (.ref p) (.tup (leadL ts ++ ks)) → Q (.ref p) H'
def spNodes (N : Nat) : Sp := fun vs H Q _ => ∃ (v : V) (t : Th), vs = [v] ∧ IsTh H v t ∧ PfT N t ∧ ∀ H', Same H H' → Q (.int (cnt t : Nat)) H'
theorem kids_of {hd : List V} {ks : List Th} (h : ∀ k ∈ ks, L2.isTup k = true) : kidsL (hd.map Th.at ++ ks) = ks := by
  unfold kidsL
  rw [List.filter_append, ats_kids, List.nil_append, kids_all h]
theorem cnt_nd {w : Str} {hd : List V} {ks : List Th} (h : ∀ k ∈ ks, L2.isTup k = true) : cnt (nd w hd ks) = 1 + cnts ks := by
  unfold nd
  rw [cnt, cnts_kids, nd_kids h]
theorem cnts_snoc : ∀ (a : List Th) (x : Th), cnts (a ++ [x]) = cnts a + cnt x := by
  intro a
  induction a with
  | nil => intro x; simp [cnts]
  | cons y a ih => intro x; rw [List.cons_append, cnts, cnts, ih]; omega
section
variable {P : Program} {w : World} {K : PySem.W.Frag} {mg : Str → Option Value} {base : Heap}
theorem scLawValue : FnScope ["_law_feed_here", "_law_way"] ["_law_feed_here"] (defScope sLawValue) := ⟨rfl, rfl, rfl, by decide +kernel, rfl, by decide +kernel, by decide +kernel⟩
theorem ok_value {f fD fS : Addr} {fd dD dS : FuncData} (F : Fun K "_law_value" "_law_value" sLawValue f fd) (U : Helpers K mg fD fS dD dS) : FnOk P w K mg base CX0 2 f fd ["_law_feed_here"] spValue := by
  have GD : FnOk P w K mg base CX0 1 fD dD ["_law_feed_here", "_law_many"] spDraw := ok_draw U.D U.T
  refine F.ok scLawValue (fun vs H Q E h => ?_) (fun cdv A outer s H vs Q E hr h => ?_)
  · obtain ⟨d, l, ns, n, rfl, _⟩ := h
    rfl
  · obtain ⟨d, l, ns, n, rfl, F0, hn, k⟩ := h
    have hr1 : Room 1 _ := hr.mono (by decide)
    refine' ⟨?tt, ?body, ?fin⟩
    case body =>
      refine' pss_cons ?s1 (pss_cons ?s2 (pss_cons ?s3 (pss_one ?s4)))
      case s1 => exact ps_set (i := 1) scLawValue.nd rfl (Or.inl rfl) (pe_call GD hr1 (by rfl) U.mD U.D.kp U.bD .nil pass0 (pa_n (pv 0) (pa_k pe_int pa_nil)))
      case s2 => exact ps_if (pt_cmpR op_eq (pv 1) pe_int (nomark _)) (pss_one (ps_ret (pe_op op_sub pe_int (pe_call GD hr1 (by rfl) U.mD U.D.kp U.bD .nil pass0 (pa_n (pv 0) (pa_k pe_int pa_nil)))))) pss_nil
      case s3 => exact ps_if (pt_cmpR op_eq (pv 1) pe_int (nomark _)) (pss_one (ps_ret (pe_op op_add (pe_op op_mul (pe_call GD hr1 (by rfl) U.mD U.D.kp U.bD .nil pass0 (pa_n (pv 0) (pa_k pe_int pa_nil))) pe_int) (pe_call GD hr1 (by rfl) U.mD U.D.kp U.bD .nil pass0 (pa_n (pv 0) (pa_k pe_int pa_nil)))))) pss_nil
      case s4 => exact ps_ret (pe_call GD hr1 (by rfl) U.mD U.D.kp U.bD .nil pass0 (pa_n (pv 0) (pa_cons (pe_op op_sub (pe_op op_mul pe_int (pv 1)) pe_int) pa_nil)))
    case fin =>
      refine ⟨_, rfl, d, l, ns, n, _, rfl, F0, by omega, by decide, by decide, fun way n1 H1 w0 w1 hn1 F1 b1 => ?_⟩
      refine ⟨_, rfl, rfl, _, rfl, ite2 (fun g => ?_) (fun g => ?_)⟩
      · refine ⟨_, rfl, d, l, ns, n1, _, rfl, F1, by omega, by decide, by decide, fun i n2 H2 i0 i1 hn2 F2 b2 => ⟨_, _, rfl, rfl, ?_⟩⟩
        exact k _ n2 H2 (by omega) (by omega) (by omega) F2 (b1.trans b2)
      · refine ⟨_, rfl, rfl, _, rfl, ite2 (fun g2 => ?_) (fun g2 => ?_)⟩
        · refine ⟨_, rfl, d, l, ns, n1, _, rfl, F1, by omega, by decide, by decide, fun i n2 H2 i0 i1 hn2 F2 b2 => ⟨_, _, rfl, rfl, .inr ⟨by decide, by decide⟩, ?_⟩⟩
          refine ⟨_, rfl, d, l, ns, n2, _, rfl, F2, by omega, by decide, by decide, fun j n3 H3 j0 j1 hn3 F3 b3 => ⟨_, _, rfl, rfl, ?_⟩⟩
          exact k _ n3 H3 (by omega) (by omega) (by omega) F3 ((b1.trans b2).trans b3)
        · have g' : way ≠ 0 := fun z => g (by rw [z]; decide)
          have g2' : way ≠ 1 := fun z => g2 (by rw [z]; decide)
          refine ⟨_, rfl, _, rfl, _, _, rfl, rfl, .inl ⟨by decide, by decide⟩, _, _, rfl, rfl, d, l, ns, n1, 3 * way - 3, rfl, F1, by omega, by omega, by omega, fun i n2 H2 i0 i1 hn2 F2 b2 => ?_⟩
          exact k i n2 H2 i0 (by omega) (by omega) F2 (b1.trans b2)
theorem scLawParts : FnScope ["_law_e"] ["_law_e"] (defScope sLawParts) := ⟨rfl, rfl, rfl, by decide +kernel, rfl, by decide +kernel, by decide +kernel⟩
theorem ok_lawparts {f : Addr} {fd : FuncData} (F : Fun K "_law_parts" "_law_parts" sLawParts f fd) (T : TxtT mg) (KI : Kits K) : FnOk P w K mg base CX0 1 f fd ["_law_e"] spLawParts := by
  refine F.ok scLawParts (fun vs H Q E h => ?_) (fun cdv A outer s H vs Q E hr h => ?_)
  · obtain ⟨v, w0, ts, rfl, _⟩ := h
    rfl
  · obtain ⟨v, w0, ts, rfl, hv, hz, k⟩ := h
    refine ⟨_, pss_one (ps_ret (pe_comp (N' := ["_law_part"]) (src := [none]) rfl (compScope_of (defScope sLawParts) rfl ["_law_e"] rfl (by decide +kernel)) (pi_tup (pe_slice sl_tupP (pv 0) (po_some pe_int) po_none))
      (fun cl C ex s0 H0 => ⟨pg_name (i := 0) (nd1 _) rfl (Or.inl rfl), pts_one (pt_val (pe_callB (id := "isinstance") (call_isinstK (K := K) rfl) (by rfl) T.isi (by decide +kernel) (pa_n (pv 0) (pa_n (pe_bltn (v := .ty "tuple") (by rfl) T.tup (by decide +kernel) rfl) pa_nil)))), pv 0⟩))), ?_⟩
    obtain ⟨a, vs, rfl, a1, a2⟩ := th_tup hv
    cases a2 with
    | @cons x xs _ _ c1 c2 =>
      refine ⟨_, rfl, _, rfl, a, x :: xs, rfl, a1, fun p H1 s1 hp => ?_⟩
      rw [cut1q] at hp
      have hl := IsThs.len _ c2
      refine ⟨p, rfl, ⟨_, SqT.of hp⟩, comp_tup (K := K) (a := p) (xs := xs) (fun i ys σc H' => ∃ o, σc = [o] ∧ IsThs H ys ((ts.take i).filter isTup) ∧ ys.length ≤ i ∧ H' = H1) ⟨none, rfl, by rw [List.take_zero]; exact .nil, Nat.le_refl _, rfl⟩ (fun i ys σc H' ⟨_, _, _, _, e⟩ => by rw [e]; exact SqT.of hp) ?_ ?_⟩
      · rintro i x ys σc H' hx hi ⟨o, rfl, hys, hyl, rfl⟩
        obtain ⟨t, ht, h1⟩ := ths_get _ c2 hx
        have hnext : (ts.take (i + 1)).filter isTup = (ts.take i).filter isTup ++ (if isTup t = true then [t] else []) := take_nextR _ ht
        refine ⟨by have : sizeLine = 16777216 := sizeLine_eq; omega, ?_⟩
        refine ⟨_, rfl, _, _, _, _, rfl, th_ty (IsTh.kp (Kp.of s1) h1), KI.tup h1, _, rfl, ite2 (fun g => ?_) (fun g => ?_)⟩
        · refine ⟨_, rfl, nx hi ⟨_, rfl, ?_, by rw [List.length_append]; show ys.length + 1 ≤ i + 1; omega, rfl⟩⟩
          rw [hnext, if_pos g]
          exact IsThs.app _ hys (.cons h1 .nil)
        · refine nx hi ⟨_, rfl, ?_, by omega, rfl⟩
          rw [hnext, if_neg g, List.append_nil]
          exact hys
      · rintro ys σc H' ⟨o, rfl, hys, hyl, rfl⟩ q hq
        rw [List.take_of_length_le (by omega)] at hys
        have sA := s1.trans (same_upd (o := .lst ys) hq)
        exact k q ys _ sA (same_none s1 hq) upd_same (IsThs.kp (Kp.of sA) hys)
theorem scWith : FnScope ["_law_e", "_law_inner"] ["_law_e", "_law_inner"] (defScope sWith) := ⟨rfl, rfl, rfl, by decide +kernel, rfl, by decide +kernel, by decide +kernel⟩
theorem ok_with {f : Addr} {fd : FuncData} (F : Fun K "_law_with" "_law_with" sWith f fd) (T : TxtT mg) (KI : Kits K) : FnOk P w K mg base CX0 1 f fd ["_law_e", "_law_inner"] spWith := by
  refine F.ok scWith (fun vs H Q E h => ?_) (fun cdv A outer s H vs Q E hr h => ?_)
  · obtain ⟨v, la, ts, ks, ws, rfl, _⟩ := h
    rfl
  · obtain ⟨v, la, ts, ks, ws, rfl, hv, hz, hla, hws, hkz, k⟩ := h
    have hsz : sizeLine = 16777216 := sizeLine_eq
    refine' ⟨?tt, ?body, ?fin⟩
    case body =>
      refine' pss_one ?s1
      case s1 =>
        refine' ps_ret ?r
        case r =>
          refine' pe_callTy call_tuple_of (by rfl) T.tup (by decide +kernel) ?a
          case a =>
            refine' pa_cons ?c pa_nil
            case c =>
              refine' pe_op op_cat ?x (pv 1)
              case x =>
                refine' pe_comp (N' := ["_law_part"]) (src := [none]) ?k1 ?k5 ?k6 ?k7
                case k1 => rfl
                case k5 => exact compScope_of (defScope sWith) rfl ["_law_e", "_law_inner"] rfl (by decide +kernel)
                case k6 => exact pi_tup (pv 0)
                case k7 => exact fun cl C ex s0 H0 => ⟨pg_name (i := 0) (nd1 _) rfl (Or.inl rfl), pts_one (pt_not (pt_val (pe_callB (id := "isinstance") (call_isinstK (K := K) rfl) (by rfl) T.isi (by decide +kernel) (pa_n (pv 0) (pa_n (pe_bltn (v := .ty "tuple") (by rfl) T.tup (by decide +kernel) rfl) pa_nil))))), pv 0⟩
    case fin =>
      obtain ⟨a, xs, rfl, ha, hts⟩ := th_tup hv
      have hl := IsThs.len _ hts
      refine ⟨_, rfl, a, rfl, ⟨_, SqT.of ha⟩, comp_tup (K := K) (a := a) (xs := xs) (fun i ys σc H' => ∃ o, σc = [o] ∧ IsThs H ys ((ts.take i).filter notTup) ∧ ys.length ≤ i ∧ H' = H) ⟨none, rfl, by rw [List.take_zero]; exact .nil, Nat.le_refl _, rfl⟩ (fun i ys σc H' ⟨_, _, _, _, e⟩ => by rw [e]; exact SqT.of ha) ?_ ?_⟩
      · rintro i x ys σc H' hx hi ⟨o, rfl, hys, hyl, rfl⟩
        obtain ⟨t, ht, h1⟩ := ths_get _ hts hx
        have hnext : (ts.take (i + 1)).filter notTup = (ts.take i).filter notTup ++ (if notTup t = true then [t] else []) := take_nextR _ ht
        refine ⟨by omega, ?_⟩
        refine ⟨_, rfl, _, _, _, _, rfl, th_ty h1, KI.tup h1, _, rfl, ite2 (fun g => ?_) (fun g => ?_)⟩
        · refine ⟨_, rfl, nx hi ⟨_, rfl, ?_, by rw [List.length_append]; show ys.length + 1 ≤ i + 1; omega, rfl⟩⟩
          rw [hnext, if_pos (show notTup t = true from g)]
          exact IsThs.app _ hys (.cons h1 .nil)
        · refine nx hi ⟨_, rfl, ?_, by omega, rfl⟩
          rw [hnext, if_neg (show ¬ notTup t = true from g), List.append_nil]
          exact hys
      · rintro ys σc H' ⟨o, rfl, hys, hyl, rfl⟩ l hl'
        rw [List.take_of_length_le (by omega)] at hys
        have s1 := same_upd (o := .lst ys) hl'
        have hwl := IsThs.len _ hws
        refine ⟨_, rfl, l, la, ys, ws, rfl, rfl, upd_same, s1 _ _ hla, by omega, fun l2 hl2 => ?_⟩
        have s2 := same_upd (o := .lst (ys ++ ws)) hl2
        refine ⟨l2, _, rfl, .inl ⟨SqL.of upd_same, fun p hp => ?_⟩⟩
        have s3 := same_upd (o := .tup (ys ++ ws)) hp
        have sA := (s1.trans s2).trans s3
        exact k p _ sA (.tup upd_same (IsThs.app _ (IsThs.kp (Kp.of sA) hys) (IsThs.kp (Kp.of sA) hws)))
theorem scNodes : FnScope ["_law_e"] ["_law_e"] (defScope sNodes) := ⟨rfl, rfl, rfl, by decide +kernel, rfl, by decide +kernel, by decide +kernel⟩
theorem ok_nodes {f fP : Addr} {fd dP : FuncData} (F : Fun K "_law_nodes" "_law_nodes" sNodes f fd) (b : Binds K fd ["_law_e"] []) (m : mg "_law_nodes" = some (.ref f)) (T : TxtT mg) (KI : Kits K) (hsum : mg "sum" = none)
    (FP : Fun K "_law_parts" "_law_parts" sLawParts fP dP) (bP : Binds K dP ["_law_e"] []) (mP : mg "_law_parts" = some (.ref fP)) : ∀ N, FnOk P w K mg base CX0 (N + 2) f fd ["_law_e"] (spNodes N) := by
  have GP : FnOk P w K mg base CX0 1 fP dP ["_law_e"] spLawParts := ok_lawparts FP T KI
  intro N
  induction N with
  | zero =>
    refine F.ok scNodes (fun vs H Q E h => ?_) (fun cdv A outer s H vs Q E hr h => ?_)
    · obtain ⟨v, t, rfl, _⟩ := h
      rfl
    · obtain ⟨v, t, rfl, _, h, _⟩ := h
      exact h.elim
  | succ N ih =>
    refine F.ok scNodes (fun vs H Q E h => ?_) (fun cdv A outer s H vs Q E hr h => ?_)
    · obtain ⟨v, t, rfl, _⟩ := h
      rfl
    · obtain ⟨v, t, rfl, hv, hD, k⟩ := h
      have hsz : sizeLine = 16777216 := sizeLine_eq
      have hr1 : Room 1 _ := hr.mono (by omega)
      refine ⟨_, pss_one (ps_ret (pe_op op_add pe_int (pe_callB (call_sum rfl) (by rfl) hsum (by decide +kernel) (pa_cons (pe_comp (N' := ["_law_part"]) (src := [none]) rfl (compScope_of (defScope sNodes) rfl ["_law_e"] rfl (by decide +kernel)) (pi_list (pe_call GP hr1 (by rfl) mP FP.kp bP .nil pass0 (pa_n (pv 0) pa_nil)))
        (fun cl C ex s0 H0 => ⟨pg_name (i := 0) (nd1 _) rfl (Or.inl rfl), pts_nil, pe_call ih hr (by rfl) m F.kp b .nil pass0 (pa_n (pv 0) pa_nil)⟩)) pa_nil)))), ?_⟩
      obtain ⟨w0, hd, ks, rfl, h1, h2, h3, h4, h5, h6⟩ := hD
      have nk : ∀ k ∈ ks, L2.isTup k = true := fun k hk => (h6 k hk).isTup
      refine ⟨_, rfl, v, w0, hd.map Th.at ++ ks, rfl, hv, by rw [List.length_append, List.length_map]; omega, fun p ws H1 s1 hp0 hp hws => ?_⟩
      rw [kids_of nk] at hws
      have hl := IsThs.len _ hws
      refine ⟨p, rfl, ⟨_, SqL.of hp⟩, comp_list (K := K) (a := p) (xs := ws) (fun i ys σc H' => ∃ (o : Option V) (ms : List Int), σc = [o] ∧ ys = ms.map V.int ∧ ms.length = i ∧ ms.sum = (cnts (ks.take i) : Nat) ∧ Same H1 H')
        ⟨none, [], rfl, rfl, rfl, by rw [List.take_zero]; rfl, Same.refl _⟩ (fun i ys σc H' ⟨_, _, _, _, _, _, e⟩ => SqL.of (e _ _ hp)) ?_ ?_⟩
      · rintro i x ys σc H' hx hi ⟨o, ms, rfl, rfl, hm, hsm, s2⟩
        obtain ⟨t, ht, hxt⟩ := ths_get _ hws hx
        refine ⟨by rw [List.length_map]; omega, ?_⟩
        refine ⟨_, rfl, x, t, rfl, IsTh.kp (Kp.of s2) hxt, h6 t (List.mem_of_getElem? ht), fun H2 s3 => nx hi ⟨_, ms ++ [((cnt t : Nat) : Int)], rfl, by rw [List.map_append]; rfl, by rw [List.length_append, hm]; rfl, ?_, s2.trans s3⟩⟩
        rw [List.take_add_one, ht, List.sum_append, hsm]
        show _ = ((cnts (ks.take i ++ [t]) : Nat) : Int)
        rw [cnts_snoc]
        simp
      · rintro ys σc H' ⟨o, ms, rfl, rfl, hm, hsm, s2⟩ q hq
        rw [List.take_of_length_le (by omega)] at hsm
        refine ⟨q, ms, rfl, SqL.of upd_same, _, _, rfl, rfl, ?_⟩
        have kk := k _ (s1.trans (s2.trans (same_upd (o := .lst (ms.map V.int)) hq)))
        rw [cnt_nd nk] at kk
        rw [hsm]
        simpa using kk
end
end K17

set_option Elab.async false
set_option linter.all false
set_option maxRecDepth 100000
set_option maxHeartbeats 4000000
namespace K17
open PySem L2
/-- the helpers that take a form apart -/
structure HW (K : PySem.W.Frag) (mg : Str → Option Value) (fP fW : Addr) (dP dW : FuncData) : Prop where
  T : TxtT mg
  KI : Kits K
  P : Fun K "_law_parts" "_law_parts" sLawParts fP dP
  bP : Binds K dP ["_law_e"] []
  mP : mg "_law_parts" = some (.ref fP)
  W : Fun K "_law_with" "_law_with" sWith fW dW
  bW : Binds K dW ["_law_e", "_law_inner"] []
  mW : mg "_law_with" = some (.ref fW)
def sg (ts : List Th) (i : Nat) : Th := ts.getD i (.tup [])
def spFill (N : Nat) : Sp := fun vs H Q _ => ∃ (v : V) (fa : Addr) (p : Th) (ws : List V) (ts : List Th), vs = [v, .ref fa] ∧ IsTh H v p ∧ PfT N p ∧ (H fa = some (.tup ws) ∨ H fa = some (.lst ws)) ∧ IsThs H ws ts ∧ (∀ i ∈ hs p, i < ts.length) ∧
  ∀ (v' : V) H', Same H H' → IsTh H' v' (fl (sg ts) p) → Q v' H'
theorem nd_fp : (["_law_fillings", "_law_part"] : List Str).Nodup := by decide +kernel
theorem lead_nd {w : Str} {hd : List V} {ks ks' : List Th} (h : ∀ k ∈ ks, L2.isTup k = true) : Th.tup (leadL (.at (.str w) :: (hd.map Th.at ++ ks)) ++ ks') = nd w hd ks' := by
  rw [nd_lead h]
  rfl
section
variable {P : Program} {w : World} {K : PySem.W.Frag} {mg : Str → Option Value} {base : Heap}
theorem scFill : FnScope ["_law_b", "_law_fillings"] ["_law_b", "_law_fillings"] (defScope sFill) := ⟨rfl, rfl, rfl, by decide +kernel, rfl, by decide +kernel, by decide +kernel⟩
theorem ok_fill {f fP fW : Addr} {fd dP dW : FuncData} (F : Fun K "_law_fill" "_law_fill" sFill f fd) (b : Binds K fd ["_law_b", "_law_fillings"] []) (m : mg "_law_fill" = some (.ref f)) (U : HW K mg fP fW dP dW) : ∀ N, FnOk P w K mg base CX0 (N + 2) f fd ["_law_b", "_law_fillings"] (spFill N) := by
  have GP : FnOk P w K mg base CX0 1 fP dP ["_law_e"] spLawParts := ok_lawparts U.P U.T U.KI
  have GW : FnOk P w K mg base CX0 1 fW dW ["_law_e", "_law_inner"] spWith := ok_with U.W U.T U.KI
  intro N
  induction N with
  | zero =>
    refine F.ok scFill (fun vs H Q E h => ?_) (fun cdv A outer s H vs Q E hr h => ?_)
    · obtain ⟨v, fa, p, ws, ts, rfl, _⟩ := h
      rfl
    · obtain ⟨v, fa, p, ws, ts, rfl, _, h, _⟩ := h
      exact h.elim
  | succ N ih =>
    refine F.ok scFill (fun vs H Q E h => ?_) (fun cdv A outer s H vs Q E hr h => ?_)
    · obtain ⟨v, fa, p, ws, ts, rfl, _⟩ := h
      rfl
    · obtain ⟨v, fa, p, ws, ts, rfl, hv, hD, hfa, hws, hin, k⟩ := h
      have hsz : sizeLine = 16777216 := sizeLine_eq
      have hr1 : Room 1 _ := hr.mono (by omega)
      refine' ⟨?tt, ?body, ?fin⟩
      case body =>
        refine' pss_cons ?s1 (pss_one ?s2)
        case s1 =>
          refine' ps_if ?c (pss_one ?b) pss_nil
          case c => exact pt_cmpR op_eq (pe_ix ix_tup (pv 0) pe_int (fun _ _ => rfl)) pe_str (nomark _)
          case b => exact ps_ret (pe_ix (IxR.or ix_tup ix_list) (pv 1) (pe_ix ix_tup (pv 0) pe_int (fun _ _ => rfl)) (fun _ _ => rfl))
        case s2 =>
          refine' ps_ret ?r
          case r =>
            refine' pe_call GW hr1 (by rfl) U.mW U.W.kp U.bW .nil pass0 ?a
            case a =>
              refine' pa_n (pv 0) ?a2
              case a2 =>
                refine' pa_cons ?c pa_nil
                case c =>
                  refine' pe_comp (N' := ["_law_fillings", "_law_part"]) (src := [some 1, none]) ?k1 ?k5 ?k6 ?k7
                  case k1 => rfl
                  case k5 => exact compScope_of (defScope sFill) rfl ["_law_b", "_law_fillings"] rfl (by decide +kernel)
                  case k6 => exact pi_list (pe_call GP hr1 (by rfl) U.mP U.P.kp U.bP .nil pass0 (pa_n (pv 0) pa_nil))
                  case k7 => exact fun cl C ex s0 H0 => ⟨pg_name (i := 1) nd_fp rfl (Or.inl rfl), pts_nil, pe_call ih hr (by rfl) m F.kp b .nil pass0 (pa_n (pv 1) (pa_n (pv 0) pa_nil))⟩
      case fin =>
        obtain ⟨w0, hd, ks, rfl, h1, h2, h3, h4, h5, h6⟩ := hD
        have nk : ∀ k ∈ ks, L2.isTup k = true := fun k hk => (h6 k hk).isTup
        obtain ⟨an, vns, rfl, han, hvns⟩ := th_tup hv
        cases hvns with
        | @cons vh vr _ _ c1 c2 =>
          obtain ⟨rfl, _⟩ := th_at c1
          refine ⟨_, rfl, an, _, 0, .str w0, rfl, rfl, SqT.of han, at_head _ _, rfl, _, rfl, ite2 (fun g2 => ?_) (fun g2 => ?_)⟩
          · have hw0 : w0 = "hole" := by
              have g' := of_decide_eq_true g2
              injection g'
            subst hw0
            obtain ⟨i, rfl, rfl⟩ := h4 rfl
            cases c2 with
            | @cons vi vr2 _ _ c3 c4 =>
              cases c4
              obtain ⟨rfl, _⟩ := th_at c3
              have hi : i < ts.length := hin i (by rw [hs_hole]; exact List.mem_singleton.mpr rfl)
              have hti : ts[i]? = some ts[i] := List.getElem?_eq_getElem hi
              obtain ⟨vx, hvx, hxt⟩ := ths_at _ hws hti
              have hres : IsTh H vx (fl (sg ts) (nd "hole" [.int (i : Nat)] [])) := by
                rw [fl_hole]
                unfold sg
                rw [show ts.getD i (.tup []) = ts[i] by simp [List.getD, hti]]
                exact hxt
              refine ⟨_, rfl, _, rfl, an, _, 1, .int (i : Nat), rfl, rfl, SqT.of han, at_next _ _ _, ?_⟩
              rcases hfa with z | z
              · exact .inl ⟨fa, ws, (i : Nat), vx, rfl, rfl, SqT.of z, atI_nat hvx, k vx H (Same.refl _) hres⟩
              · exact .inr ⟨fa, ws, (i : Nat), vx, rfl, rfl, SqL.of z, atI_nat hvx, k vx H (Same.refl _) hres⟩
          · have hw0 : w0 ≠ "hole" := fun z => g2 (by rw [z]; decide +kernel)
            refine ⟨_, rfl, _, rfl, .ref an, w0, hd.map Th.at ++ ks, rfl, hv, by rw [List.length_append, List.length_map]; omega, fun p ps H1 s1 hp0 hp hps => ?_⟩
            rw [kids_of nk] at hps
            have hl := IsThs.len _ hps
            refine ⟨p, rfl, ⟨_, SqL.of hp⟩, comp_list (K := K) (a := p) (xs := ps) (fun i ys σc H' => ∃ (o : Option V), σc = [some (.ref fa), o] ∧ ys.length = i ∧ IsThs H' ys ((ks.take i).map (fl (sg ts))) ∧ Same H1 H')
              ⟨none, rfl, rfl, by rw [List.take_zero]; exact .nil, Same.refl _⟩ (fun i ys σc H' ⟨_, _, _, _, e⟩ => SqL.of (e _ _ hp)) ?_ ?_⟩
            · rintro i x ys σc H' hx hi ⟨o, rfl, hyl, hys, s2⟩
              obtain ⟨t, ht, hxt⟩ := ths_get _ hps hx
              have htk := List.mem_of_getElem? ht
              have s12 := s1.trans s2
              refine ⟨by omega, ?_⟩
              refine ⟨_, rfl, _, rfl, x, fa, t, ws, ts, rfl, IsTh.kp (Kp.of s2) hxt, h6 t htk, hfa.imp (fun z => s12 _ _ z) (fun z => s12 _ _ z), IsThs.kp (Kp.of s12) hws, fun j hj => hin j ((hs_nd hw0).mpr ⟨t, htk, hj⟩), fun v' H2 s3 hv' => nx hi ⟨_, rfl, by rw [List.length_append, hyl]; rfl, ?_, s2.trans s3⟩⟩
              rw [List.take_add_one, ht, List.map_append]
              exact IsThs.app _ (IsThs.kp (Kp.of s3) hys) (.cons hv' .nil)
            · rintro ys σc H' ⟨o, rfl, hyl, hys, s2⟩ q hq
              rw [List.take_of_length_le (by omega)] at hys
              have sq := same_upd (o := .lst ys) hq
              have sA := (s1.trans s2).trans sq
              refine ⟨.ref an, q, _, ks.map (fl (sg ts)), ys, rfl, IsTh.kp (Kp.of sA) hv, by rw [List.length_cons, List.length_append, List.length_map]; omega, upd_same, IsThs.kp (Kp.of sq) hys, by rw [List.length_map]; omega, fun r H3 s3 hr3 => ?_⟩
              rw [lead_nd nk] at hr3
              refine k _ _ (sA.trans s3) ?_
              rw [fl_nd hw0]
              exact hr3
end
end K17

set_option Elab.async false
set_option linter.all false
set_option maxRecDepth 100000
set_option maxHeartbeats 4000000
namespace K17
open PySem L2
theorem fl_congr {σ τ : Nat → Th} : ∀ (n : Nat) {t : Th}, PfT n t → (∀ i ∈ hs t, σ i = τ i) → fl σ t = fl τ t := by
  intro n
  induction n with
  | zero => intro t h; exact h.elim
  | succ n ih =>
    intro t h e
    obtain ⟨w, hd, ks, rfl, h1, h2, h3, h4, h5, h6⟩ := h
    by_cases hw : w = "hole"
    · subst hw
      obtain ⟨i, rfl, rfl⟩ := h4 rfl
      rw [fl_hole, fl_hole]
      exact e i (by rw [hs_hole]; exact List.mem_singleton.mpr rfl)
    · rw [fl_nd hw, fl_nd hw]
      refine congrArg (nd w hd) (List.map_congr_left fun k hk => ih (h6 k hk) fun i hi => e i ((hs_nd hw).mpr ⟨k, hk, hi⟩))
theorem fl_pf {σ : Nat → Th} {m : Nat} : ∀ (n : Nat) {t : Th}, PfT n t → (∀ i ∈ hs t, PfT m (σ i)) → PfT (n + m) (fl σ t) := by
  intro n
  induction n with
  | zero => intro t h; exact h.elim
  | succ n ih =>
    intro t h e
    obtain ⟨w, hd, ks, rfl, h1, h2, h3, h4, h5, h6⟩ := h
    by_cases hw : w = "hole"
    · subst hw
      obtain ⟨i, rfl, rfl⟩ := h4 rfl
      rw [fl_hole]
      exact (e i (by rw [hs_hole]; exact List.mem_singleton.mpr rfl)).le (by omega)
    · rw [fl_nd hw, Nat.add_right_comm]
      refine ⟨w, hd, _, rfl, h1, h2, fun z => ⟨(h3 z).1, by rw [List.length_map]; exact (h3 z).2⟩, fun z => absurd z hw, by rw [List.length_map]; exact h5, fun k hk => ?_⟩
      obtain ⟨y, hy, rfl⟩ := List.mem_map.mp hk
      exact ih (h6 y hy) fun i hi => e i ((hs_nd hw).mpr ⟨y, hy, hi⟩)
theorem hs_fl {σ : Nat → Th} {j : Nat} : ∀ (n : Nat) {t : Th}, PfT n t → (j ∈ hs (fl σ t) ↔ ∃ i ∈ hs t, j ∈ hs (σ i)) := by
  intro n
  induction n with
  | zero => intro t h; exact h.elim
  | succ n ih =>
    intro t h
    obtain ⟨w, hd, ks, rfl, h1, h2, h3, h4, h5, h6⟩ := h
    by_cases hw : w = "hole"
    · subst hw
      obtain ⟨i, rfl, rfl⟩ := h4 rfl
      rw [fl_hole, hs_hole]
      simp
    · rw [fl_nd hw, hs_nd hw]
      constructor
      · rintro ⟨k, hk, hj⟩
        obtain ⟨y, hy, rfl⟩ := List.mem_map.mp hk
        obtain ⟨i, hi, h⟩ := (ih (h6 y hy)).mp hj
        exact ⟨i, (hs_nd hw).mpr ⟨y, hy, hi⟩, h⟩
      · rintro ⟨i, hi, h⟩
        obtain ⟨y, hy, hi⟩ := (hs_nd hw).mp hi
        exact ⟨_, List.mem_map.mpr ⟨y, hy, rfl⟩, (ih (h6 y hy)).mpr ⟨i, hi, h⟩⟩
def hol (i : Nat) : Th := nd "hole" [.int (i : Nat)] []
theorem hol_pf (i : Nat) : PfT 1 (hol i) := ⟨"hole", [.int (i : Nat)], [], rfl, Nat.le_refl _, fun v hv => by rw [List.mem_singleton] at hv; subst hv; rfl, fun z => absurd z (by decide +kernel), fun _ => ⟨i, rfl, rfl⟩, Nat.zero_le _, fun k hk => by cases hk⟩
theorem hol_is {H : Hp} {p : Addr} {i : Nat} (h : H p = some (.tup [.str "hole", .int (i : Nat)])) : IsTh H (.ref p) (hol i) := .tup h (.cons (.at (by decide +kernel)) (.cons (.at rfl) .nil))
def spTurned (N : Nat) : Sp := fun vs H Q _ => ∃ (v : V) (m : Nat) (t : Th), vs = [v, .int (m : Nat)] ∧ IsTh H v t ∧ PfT N t ∧ (∀ i ∈ hs t, i < m) ∧
  ∀ (v' : V) H', Same H H' → IsTh H' v' (fl (fun i => hol (m - 1 - i)) t) → Q v' H'
theorem nd_mo : (["_law_many", "_law_one"] : List Str).Nodup := by decide +kernel
section
variable {P : Program} {w : World} {K : PySem.W.Frag} {mg : Str → Option Value} {base : Heap}
theorem scTurned : FnScope ["_law_b", "_law_many"] ["_law_b", "_law_many"] (defScope sTurned) := ⟨rfl, rfl, rfl, by decide +kernel, rfl, by decide +kernel, by decide +kernel⟩
theorem ok_turned {f fP fW : Addr} {fd dP dW : FuncData} (F : Fun K "_law_turned_about" "_law_turned_about" sTurned f fd) (b : Binds K fd ["_law_b", "_law_many"] []) (m : mg "_law_turned_about" = some (.ref f)) (U : HW K mg fP fW dP dW) : ∀ N, FnOk P w K mg base CX0 (N + 2) f fd ["_law_b", "_law_many"] (spTurned N) := by
  have GP : FnOk P w K mg base CX0 1 fP dP ["_law_e"] spLawParts := ok_lawparts U.P U.T U.KI
  have GW : FnOk P w K mg base CX0 1 fW dW ["_law_e", "_law_inner"] spWith := ok_with U.W U.T U.KI
  intro N
  induction N with
  | zero =>
    refine F.ok scTurned (fun vs H Q E h => ?_) (fun cdv A outer s H vs Q E hr h => ?_)
    · obtain ⟨v, m, t, rfl, _⟩ := h
      rfl
    · obtain ⟨v, m, t, rfl, _, h, _⟩ := h
      exact h.elim
  | succ N ih =>
    refine F.ok scTurned (fun vs H Q E h => ?_) (fun cdv A outer s H vs Q E hr h => ?_)
    · obtain ⟨v, m, t, rfl, _⟩ := h
      rfl
    · obtain ⟨v, mm, t, rfl, hv, hD, hin, k⟩ := h
      have hsz : sizeLine = 16777216 := sizeLine_eq
      have hr1 : Room 1 _ := hr.mono (by omega)
      refine' ⟨?tt, ?body, ?fin⟩
      case body =>
        refine' pss_cons ?s1 (pss_one ?s2)
        case s1 =>
          refine' ps_if ?c (pss_one ?b) pss_nil
          case c => exact pt_cmpR op_eq (pe_ix ix_tup (pv 0) pe_int (fun _ _ => rfl)) pe_str (nomark _)
          case b =>
            refine' ps_ret ?r0
            case r0 =>
              refine' pe_tup ?a0
              case a0 => exact pa_k pe_str (pa_cons (pe_op op_sub (pe_op op_sub (pv 1) pe_int) (pe_ix ix_tup (pv 0) pe_int (fun _ _ => rfl))) pa_nil)
        case s2 =>
          refine' ps_ret ?r
          case r =>
            refine' pe_call GW hr1 (by rfl) U.mW U.W.kp U.bW .nil pass0 ?a
            case a =>
              refine' pa_n (pv 0) ?a2
              case a2 =>
                refine' pa_cons ?c pa_nil
                case c =>
                  refine' pe_comp (N' := ["_law_many", "_law_one"]) (src := [some 1, none]) ?k1 ?k5 ?k6 ?k7
                  case k1 => rfl
                  case k5 => exact compScope_of (defScope sTurned) rfl ["_law_b", "_law_many"] rfl (by decide +kernel)
                  case k6 => exact pi_list (pe_call GP hr1 (by rfl) U.mP U.P.kp U.bP .nil pass0 (pa_n (pv 0) pa_nil))
                  case k7 => exact fun cl C ex s0 H0 => ⟨pg_name (i := 1) nd_mo rfl (Or.inl rfl), pts_nil, pe_call ih hr (by rfl) m F.kp b .nil pass0 (pa_n (pv 1) (pa_n (pv 0) pa_nil))⟩
      case fin =>
        obtain ⟨w0, hd, ks, rfl, h1, h2, h3, h4, h5, h6⟩ := hD
        have nk : ∀ k ∈ ks, L2.isTup k = true := fun k hk => (h6 k hk).isTup
        obtain ⟨an, vns, rfl, han, hvns⟩ := th_tup hv
        cases hvns with
        | @cons vh vr _ _ c1 c2 =>
          obtain ⟨rfl, _⟩ := th_at c1
          refine ⟨_, rfl, an, _, 0, .str w0, rfl, rfl, SqT.of han, at_head _ _, rfl, _, rfl, ite2 (fun g2 => ?_) (fun g2 => ?_)⟩
          · have hw0 : w0 = "hole" := by
              have g' := of_decide_eq_true g2
              injection g'
            subst hw0
            obtain ⟨i, rfl, rfl⟩ := h4 rfl
            cases c2 with
            | @cons vi vr2 _ _ c3 c4 =>
              cases c4
              obtain ⟨rfl, _⟩ := th_at c3
              have hi : i < mm := hin i (by rw [hs_hole]; exact List.mem_singleton.mpr rfl)
              refine ⟨_, rfl, _, _, rfl, rfl, _, rfl, an, _, 1, .int (i : Nat), rfl, rfl, SqT.of han, at_next _ _ _, _, _, rfl, rfl, (by show 2 ≤ sizeLine; decide), fun p hp => ?_⟩
              refine k _ _ (same_upd hp) ?_
              rw [fl_hole]
              refine hol_is ?_
              rw [upd_same]
              show some (HO.tup [.str "hole", .int (((mm : Nat) : Int) - 1 - ((i : Nat) : Int))]) = _
              rw [show ((mm : Nat) : Int) - 1 - ((i : Nat) : Int) = ((mm - 1 - i : Nat) : Int) by omega]
          · have hw0 : w0 ≠ "hole" := fun z => g2 (by rw [z]; decide +kernel)
            refine ⟨_, rfl, _, rfl, .ref an, w0, hd.map Th.at ++ ks, rfl, hv, by rw [List.length_append, List.length_map]; omega, fun p ps H1 s1 hp0 hp hps => ?_⟩
            rw [kids_of nk] at hps
            have hl := IsThs.len _ hps
            refine ⟨p, rfl, ⟨_, SqL.of hp⟩, comp_list (K := K) (a := p) (xs := ps) (fun i ys σc H' => ∃ (o : Option V), σc = [some (.int (mm : Nat)), o] ∧ ys.length = i ∧ IsThs H' ys ((ks.take i).map (fl fun i => hol (mm - 1 - i))) ∧ Same H1 H')
              ⟨none, rfl, rfl, by rw [List.take_zero]; exact .nil, Same.refl _⟩ (fun i ys σc H' ⟨_, _, _, _, e⟩ => SqL.of (e _ _ hp)) ?_ ?_⟩
            · rintro i x ys σc H' hx hi ⟨o, rfl, hyl, hys, s2⟩
              obtain ⟨t, ht, hxt⟩ := ths_get _ hps hx
              have htk := List.mem_of_getElem? ht
              refine ⟨by omega, ?_⟩
              refine ⟨_, rfl, _, rfl, x, mm, t, rfl, IsTh.kp (Kp.of s2) hxt, h6 t htk, fun j hj => hin j ((hs_nd hw0).mpr ⟨t, htk, hj⟩), fun v' H2 s3 hv' => nx hi ⟨_, rfl, by rw [List.length_append, hyl]; rfl, ?_, s2.trans s3⟩⟩
              rw [List.take_add_one, ht, List.map_append]
              exact IsThs.app _ (IsThs.kp (Kp.of s3) hys) (.cons hv' .nil)
            · rintro ys σc H' ⟨o, rfl, hyl, hys, s2⟩ q hq
              rw [List.take_of_length_le (by omega)] at hys
              have sq := same_upd (o := .lst ys) hq
              have sA := (s1.trans s2).trans sq
              refine ⟨.ref an, q, _, _, ys, rfl, IsTh.kp (Kp.of sA) hv, by rw [List.length_cons, List.length_append, List.length_map]; omega, upd_same, IsThs.kp (Kp.of sq) hys, by rw [List.length_map]; omega, fun r H3 s3 hr3 => ?_⟩
              rw [lead_nd nk] at hr3
              refine k _ _ (sA.trans s3) ?_
              rw [fl_nd hw0]
              exact hr3
end
end K17

set_option Elab.async false
set_option linter.all false
set_option maxRecDepth 100000
set_option maxHeartbeats 4000000
namespace K17
open PySem L2
mutual
theorem th_but {H H' : Hp} {a : Addr} {xs : List V} (h : H a = some (.lst xs)) (b : But a H H') : ∀ {v : V} {t : Th}, IsTh H v t → plT t = true → IsTh H' v t
  | _, _, .at f, _ => .at f
  | _, _, .tup e r, p => by
    rw [plT] at p
    exact .tup (b _ _ e (ne_of e h (by intro q; cases q))) (ths_but h b r p)
  | _, _, .lst e r, p => by rw [plT] at p; cases p
theorem ths_but {H H' : Hp} {a : Addr} {xs : List V} (h : H a = some (.lst xs)) (b : But a H H') : ∀ {vs : List V} {ts : List Th}, IsThs H vs ts → plTs ts = true → IsThs H' vs ts
  | _, _, .nil, _ => .nil
  | _, _, .cons e r, p => by
    rw [plTs, Bool.and_eq_true] at p
    exact .cons (th_but h b e p.1) (ths_but h b r p.2)
end
abbrev iv (S : List Nat) : List V := S.map fun (i : Nat) => V.int (i : Nat)
theorem inV_ints (i : Nat) (S : List Nat) : inV (.int (i : Nat)) (iv S) = true ↔ i ∈ S := by
  unfold inV iv
  rw [List.any_map, List.any_eq_true]
  constructor
  · rintro ⟨y, hy, e⟩
    have e' : (((y : Nat) : Int) == ((i : Nat) : Int)) = true := e
    have := beq_iff_eq.mp e'
    rw [show i = y by omega]
    exact hy
  · intro h
    exact ⟨i, h, beq_self_eq_true _⟩
theorem ints_flat (S : List Nat) : (iv S).all flatV = true := by
  unfold iv
  rw [List.all_map]
  exact List.all_eq_true.mpr fun _ _ => rfl
theorem idx_first (i : Nat) : ∀ (l : List Nat) (m : Nat), m < l.idxOf i → l[m]? ≠ some i := by
  intro l
  induction l with
  | nil => intro m h; simp at h
  | cons x l ih =>
    intro m h
    rw [List.idxOf_cons] at h
    by_cases e : x = i
    · subst e
      simp at h
    · rw [show (x == i) = false by simpa using e] at h
      cases m with
      | zero => simpa using e
      | succ m => rw [List.getElem?_cons_succ]; exact ih m (by simpa using h)
/-- the place of a number in what was seen -/
def ix (S : List Nat) (i : Nat) : Th := hol (S.idxOf i)
theorem ix_more {S R : List Nat} {i : Nat} (h : i ∈ S) : ix (S ++ R) i = ix S i := by
  unfold ix
  rw [List.idxOf_append, if_pos h]
theorem ix_pf (S : List Nat) (i : Nat) : PfT 1 (ix S i) := hol_pf _
theorem pl_fl {σ : Nat → Th} {n : Nat} {t : Th} (h : PfT n t) (hσ : ∀ i ∈ hs t, PfT 1 (σ i)) : plT (fl σ t) = true := (fl_pf n h hσ).pl
def spDense (N : Nat) : Sp := fun vs H Q _ => ∃ (v : V) (sa : Addr) (t : Th) (S : List Nat), vs = [v, .ref sa] ∧ IsTh H v t ∧ PfT N t ∧ H sa = some (.lst (iv S)) ∧ S.Nodup ∧ (∀ i ∈ S, i < 1000) ∧ (∀ i ∈ hs t, i < 1000) ∧
  ∀ (v' : V) (R : List Nat) H', But sa H H' → H' sa = some (.lst (iv (S ++ R))) → (S ++ R).Nodup → (∀ i ∈ hs t, i ∈ S ++ R) → (∀ i ∈ R, i ∈ hs t) → IsTh H' v' (fl (ix (S ++ R)) t) → Q v' H'
theorem nd_ps : (["_law_part", "_law_seen"] : List Str).Nodup := by decide +kernel
section
variable {P : Program} {w : World} {K : PySem.W.Frag} {mg : Str → Option Value} {base : Heap}
theorem scDense : FnScope ["_law_b", "_law_seen"] ["_law_b", "_law_seen"] (defScope sDense) := ⟨rfl, rfl, rfl, by decide +kernel, rfl, by decide +kernel, by decide +kernel⟩
theorem ok_dense {f fP fW : Addr} {fd dP dW : FuncData} (F : Fun K "_law_dense" "_law_dense" sDense f fd) (b : Binds K fd ["_law_b", "_law_seen"] []) (m : mg "_law_dense" = some (.ref f)) (U : HW K mg fP fW dP dW) : ∀ N, FnOk P w K mg base CX0 (N + 2) f fd ["_law_b", "_law_seen"] (spDense N) := by
  have GP : FnOk P w K mg base CX0 1 fP dP ["_law_e"] spLawParts := ok_lawparts U.P U.T U.KI
  have GW : FnOk P w K mg base CX0 1 fW dW ["_law_e", "_law_inner"] spWith := ok_with U.W U.T U.KI
  intro N
  induction N with
  | zero =>
    refine F.ok scDense (fun vs H Q E h => ?_) (fun cdv A outer s H vs Q E hr h => ?_)
    · obtain ⟨v, sa, t, S, rfl, _⟩ := h
      rfl
    · obtain ⟨v, sa, t, S, rfl, _, h, _⟩ := h
      exact h.elim
  | succ N ih =>
    refine F.ok scDense (fun vs H Q E h => ?_) (fun cdv A outer s H vs Q E hr h => ?_)
    · obtain ⟨v, sa, t, S, rfl, _⟩ := h
      rfl
    · obtain ⟨v, sa, t, S, rfl, hv, hD, hS, hnd, hlt, hlt2, k⟩ := h
      have hsz : sizeLine = 16777216 := sizeLine_eq
      have hr1 : Room 1 _ := hr.mono (by omega)
      have hSl : S.length ≤ 1000 := few hnd hlt
      refine' ⟨?tt, ?body, ?fin⟩
      case body =>
        refine' pss_cons ?s1 (pss_one ?s2)
        case s1 =>
          refine' ps_if ?c (pss_cut ?b1 (pss_one ?b2)) pss_nil
          case c => exact pt_cmpR op_eq (pe_ix ix_tup (pv 0) pe_int (fun _ _ => rfl)) pe_str (nomark _)
          case b1 =>
            refine' ps_if ?c2 (pss_one ?b3) pss_nil
            case c2 => exact pt_cmpR op_notIn_seq (pe_ix ix_tup (pv 0) pe_int (fun _ _ => rfl)) (pv 1) (by with_unfolding_all rfl)
            case b3 => exact ps_expr (pe_bm PySem.F.plainAttrs_list PySem.F.slot_list_append PySem.F.type_list_append mt_append (pv 1) (pa_cons (pe_ix ix_tup (pv 0) pe_int (fun _ _ => rfl)) pa_nil))
          case b2 =>
            refine' ps_ret ?r0
            case r0 =>
              refine' pe_tup ?a0
              case a0 => exact pa_k pe_str (pa_cons (pe_bm PySem.F.plainAttrs_list PySem.F.slot_list_index PySem.F.type_list_index mt_index (pv 1) (pa_cons (pe_ix ix_tup (pv 0) pe_int (fun _ _ => rfl)) pa_nil)) pa_nil)
        case s2 =>
          refine' ps_ret ?r
          case r =>
            refine' pe_call GW hr1 (by rfl) U.mW U.W.kp U.bW .nil pass0 ?a
            case a =>
              refine' pa_n (pv 0) ?a2
              case a2 =>
                refine' pa_cons ?c pa_nil
                case c =>
                  refine' pe_comp (N' := ["_law_part", "_law_seen"]) (src := [none, some 1]) ?k1 ?k5 ?k6 ?k7
                  case k1 => rfl
                  case k5 => exact compScope_of (defScope sDense) rfl ["_law_b", "_law_seen"] rfl (by decide +kernel)
                  case k6 => exact pi_list (pe_call GP hr1 (by rfl) U.mP U.P.kp U.bP .nil pass0 (pa_n (pv 0) pa_nil))
                  case k7 => exact fun cl C ex s0 H0 => ⟨pg_name (i := 0) nd_ps rfl (Or.inl rfl), pts_nil, pe_call ih hr (by rfl) m F.kp b .nil pass0 (pa_n (pv 0) (pa_n (pv 1) pa_nil))⟩
      case fin =>
        obtain ⟨w0, hd, ks, rfl, h1, h2, h3, h4, h5, h6⟩ := hD
        have nk : ∀ k ∈ ks, L2.isTup k = true := fun k hk => (h6 k hk).isTup
        obtain ⟨an, vns, rfl, han, hvns⟩ := th_tup hv
        have hns : an ≠ sa := ne_of han hS (by intro q; cases q)
        cases hvns with
        | @cons vh vr _ _ c1 c2 =>
          obtain ⟨rfl, _⟩ := th_at c1
          refine ⟨_, rfl, an, _, 0, .str w0, rfl, rfl, SqT.of han, at_head _ _, rfl, _, rfl, ite2 (fun g2 => ?_) (fun g2 => ?_)⟩
          · have hw0 : w0 = "hole" := by
              have g' := of_decide_eq_true g2
              injection g'
            subst hw0
            obtain ⟨i, rfl, rfl⟩ := h4 rfl
            cases c2 with
            | @cons vi vr2 _ _ c3 c4 =>
              cases c4
              obtain ⟨rfl, _⟩ := th_at c3
              refine ⟨fun σ' H' => ∃ R, σ' = [some (.ref an), some (.ref sa)] ∧ But sa H H' ∧ H' sa = some (.lst (iv (S ++ R))) ∧ (S ++ R).Nodup ∧ i ∈ S ++ R ∧ ∀ j ∈ R, j = i, ?_, ?_⟩
              · refine ⟨_, rfl, an, _, 1, .int (i : Nat), rfl, rfl, SqT.of han, at_next _ _ _, _, rfl, sa, iv S, rfl, .inl (SqL.of hS), rfl, ints_flat S, _, rfl, ite2 (fun g => ?_) (fun g => ?_)⟩
                · have hno : i ∉ S := fun z => by
                    have g' : (!inV (.int (i : Nat)) (iv S)) = true := g
                    rw [(inV_ints i S).mpr z] at g'
                    cases g'
                  refine ⟨_, rfl, .inl ⟨rfl, _, SqL.of hS⟩, _, rfl, an, _, 1, .int (i : Nat), rfl, rfl, SqT.of han, at_next _ _ _, sa, iv S, .int (i : Nat), rfl, rfl, hS, by rw [List.length_map]; omega, [i], rfl, But.upd, ?_, ?_, List.mem_append_right _ (List.mem_singleton.mpr rfl), fun j hj => List.mem_singleton.mp hj⟩
                  · rw [upd_same]
                    unfold iv
                    rw [List.map_append]
                    rfl
                  · rw [List.nodup_append]
                    refine ⟨hnd, by simp, fun a ha b hb => ?_⟩
                    rw [List.mem_singleton] at hb
                    subst hb
                    exact fun z => hno (z ▸ ha)
                · have hyes : i ∈ S := by
                    refine (inV_ints i S).mp ?_
                    cases e : inV (.int (i : Nat)) (iv S) with
                    | true => rfl
                    | false => exact absurd (by rw [e]; rfl) g
                  exact ⟨[], rfl, But.refl _ _, by rw [List.append_nil]; exact hS, by rw [List.append_nil]; exact hnd, by rw [List.append_nil]; exact hyes, fun j hj => by cases hj⟩
              · rintro σ1 H1 ⟨R, rfl, b1, hS1, hnd1, hi1, hR⟩
                have han1 := b1 _ _ han hns
                refine ⟨_, rfl, .inl ⟨rfl, _, SqL.of hS1⟩, _, rfl, an, _, 1, .int (i : Nat), rfl, rfl, SqT.of han1, at_next _ _ _, sa, (S ++ R).map (fun (i : Nat) => (i : Int)), (i : Nat), (S ++ R).idxOf i, rfl, rfl, ?_, ?_, ?_, (by show 2 ≤ sizeLine; decide), fun p hp => ?_⟩
                · rw [hS1, List.map_map]
                  rfl
                · rw [List.getElem?_map, List.getElem?_eq_getElem (List.idxOf_lt_length_iff.mpr hi1), List.getElem_idxOf]
                  rfl
                · intro m hm e
                  rw [List.getElem?_map, List.getElem?_eq_getElem (Nat.lt_trans hm (List.idxOf_lt_length_iff.mpr hi1))] at e
                  have e' : (((S ++ R)[m]'(Nat.lt_trans hm (List.idxOf_lt_length_iff.mpr hi1)) : Nat) : Int) = ((i : Nat) : Int) := by simpa using e
                  have e2 : (S ++ R)[m]'(Nat.lt_trans hm (List.idxOf_lt_length_iff.mpr hi1)) = i := by omega
                  exact idx_first i (S ++ R) m hm (by rw [List.getElem?_eq_getElem (Nat.lt_trans hm (List.idxOf_lt_length_iff.mpr hi1)), e2])
                · have sp := same_upd (o := .tup [.str "hole", .int (((S ++ R).idxOf i : Nat) : Int)]) hp
                  refine k _ R _ (b1.trans (But.of sp)) (sp _ _ hS1) hnd1 (fun j hj => ?_) (fun j hj => ?_) ?_
                  · rw [hs_hole, List.mem_singleton] at hj
                    rw [hj]
                    exact hi1
                  · rw [hs_hole, hR j hj]
                    exact List.mem_singleton.mpr rfl
                  · rw [fl_hole]
                    exact hol_is upd_same
          · have hw0 : w0 ≠ "hole" := fun z => g2 (by rw [z]; decide +kernel)
            refine ⟨_, rfl, _, rfl, .ref an, w0, hd.map Th.at ++ ks, rfl, hv, by rw [List.length_append, List.length_map]; omega, fun p ps H1 s1 hp0 hp hps => ?_⟩
            rw [kids_of nk] at hps
            have hl := IsThs.len _ hps
            have hS1 := s1 _ _ hS
            have hpsa : p ≠ sa := fun z => by rw [z, hS] at hp0; cases hp0
            refine ⟨p, rfl, ⟨_, SqL.of hp⟩, comp_list (K := K) (a := p) (xs := ps) (fun i ys σc H' => ∃ (o : Option V) (R : List Nat), σc = [o, some (.ref sa)] ∧ ys.length = i ∧ But sa H1 H' ∧ H' sa = some (.lst (iv (S ++ R))) ∧ (S ++ R).Nodup ∧ (∀ t ∈ ks.take i, ∀ j ∈ hs t, j ∈ S ++ R) ∧ (∀ j ∈ R, ∃ t ∈ ks, j ∈ hs t) ∧ IsThs H' ys ((ks.take i).map (fl (ix (S ++ R)))))
              ⟨none, [], rfl, rfl, But.refl _ _, by rw [List.append_nil]; exact hS1, by rw [List.append_nil]; exact hnd, fun t ht => (by rw [List.take_zero] at ht; cases ht), fun j hj => (by cases hj), by rw [List.take_zero]; exact .nil⟩ (fun i ys σc H' ⟨_, _, _, _, e, _⟩ => SqL.of (e _ _ hp hpsa)) ?_ ?_⟩
            · rintro i x ys σc H' hx hi ⟨o, R, rfl, hyl, b2, hS2, hnd2, hc1, hc2, hys⟩
              obtain ⟨t, ht, hxt⟩ := ths_get _ hps hx
              have htk := List.mem_of_getElem? ht
              refine ⟨by omega, ?_⟩
              refine ⟨_, rfl, _, rfl, x, sa, t, S ++ R, rfl, th_but hS1 b2 hxt (h6 t htk).pl, h6 t htk, hS2, hnd2, fun j hj => ?_, fun j hj => hlt2 j ((hs_nd hw0).mpr ⟨t, htk, hj⟩), fun v' R2 H2 b3 hS3 hnd3 q1 q2 hv' => ?_⟩
              · rcases List.mem_append.mp hj with z | z
                · exact hlt j z
                · obtain ⟨t2, ht2, hj2⟩ := hc2 j z
                  exact hlt2 j ((hs_nd hw0).mpr ⟨t2, ht2, hj2⟩)
              · rw [List.append_assoc] at hS3 hnd3 q1 hv'
                refine nx hi ⟨_, R ++ R2, rfl, by rw [List.length_append, hyl]; rfl, b2.trans b3, hS3, hnd3, ?_, ?_, ?_⟩
                · intro t' ht' j hj
                  rw [List.take_add_one, ht] at ht'
                  rcases List.mem_append.mp ht' with z | z
                  · have := hc1 t' z j hj
                    rw [← List.append_assoc]
                    exact List.mem_append_left _ this
                  · have z' : t' = t := by simpa using z
                    subst z'
                    exact q1 j hj
                · intro j hj
                  rcases List.mem_append.mp hj with z | z
                  · exact hc2 j z
                  · exact ⟨t, htk, q2 j z⟩
                · rw [List.take_add_one, ht, List.map_append]
                  refine IsThs.app _ ?_ (.cons hv' .nil)
                  have e : (ks.take i).map (fl (ix (S ++ (R ++ R2)))) = (ks.take i).map (fl (ix (S ++ R))) := by
                    refine List.map_congr_left fun t' ht' => fl_congr N (h6 t' (List.mem_of_mem_take ht')) fun j hj => ?_
                    rw [← List.append_assoc]
                    exact ix_more (hc1 t' ht' j hj)
                  rw [e]
                  refine ths_but hS2 b3 hys (plTs_all fun y hy => ?_)
                  obtain ⟨t', ht', rfl⟩ := List.mem_map.mp hy
                  exact pl_fl (h6 t' (List.mem_of_mem_take ht')) fun j _ => ix_pf _ _
            · rintro ys σc H' ⟨o, R, rfl, hyl, b2, hS2, hnd2, hc1, hc2, hys⟩ q hq
              rw [List.take_of_length_le (by omega)] at hys hc1
              have sq := same_upd (o := .lst ys) hq
              have hv2 := th_but hS1 b2 (IsTh.kp (Kp.of s1) hv) (PfT.pl (N + 1) ⟨w0, hd, ks, rfl, h1, h2, h3, h4, h5, h6⟩)
              refine ⟨.ref an, q, _, _, ys, rfl, IsTh.kp (Kp.of sq) hv2, by rw [List.length_cons, List.length_append, List.length_map]; omega, upd_same, IsThs.kp (Kp.of sq) hys, by rw [List.length_map]; omega, fun r H3 s3 hr3 => ?_⟩
              rw [lead_nd nk] at hr3
              refine k _ R _ (((But.of s1).trans b2).trans (But.of (sq.trans s3))) (s3 _ _ (sq _ _ hS2)) hnd2 (fun j hj => ?_) (fun j hj => ?_) ?_
              · obtain ⟨t, ht, hj2⟩ := (hs_nd hw0).mp hj
                exact hc1 t ht j hj2
              · exact (hs_nd hw0).mpr (hc2 j hj)
              · rw [fl_nd hw0]
                exact hr3
end
end K17

set_option Elab.async false
set_option linter.all false
set_option maxRecDepth 100000
set_option maxHeartbeats 4000000
namespace K17
open PySem L2
structure KS (K : PySem.W.Frag) : Prop where
  is : PySem.W.kitOne K (.type "int") (.type "str") = some false
  ss : PySem.W.kitOne K (.type "str") (.type "str") = some true
structure TxtA (mg : Str → Option Value) : Prop where
  str : mg "str" = none
  all : mg "all" = none
  any : mg "any" = none
  range : mg "range" = none
def spSame (N : Nat) : Sp := fun vs H Q _ => ∃ (v v' : V) (t : Th), vs = [v, v'] ∧ IsTh H v t ∧ IsTh H v' t ∧ plT t = true ∧ dp t < N ∧ Th.sz t ≤ 1000000 ∧ ∀ H', Same H H' → Q (.bl true) H'
theorem nd_dfk : (["_law_due", "_law_found", "_law_k"] : List Str).Nodup := by decide +kernel
theorem plTs_mem : ∀ {ts : List Th} {t : Th}, plTs ts = true → t ∈ ts → plT t = true := by
  intro ts
  induction ts with
  | nil => intro t _ h; cases h
  | cons x ts ih =>
    intro t p h
    rw [plTs, Bool.and_eq_true] at p
    rcases List.mem_cons.mp h with rfl | h
    · exact p.1
    · exact ih p.2 h
theorem dps_mem : ∀ {ts : List Th} {t : Th}, t ∈ ts → dp t ≤ dps ts := by
  intro ts
  induction ts with
  | nil => intro t h; cases h
  | cons x ts ih =>
    intro t h
    rw [dps]
    rcases List.mem_cons.mp h with rfl | h
    · exact Nat.le_max_left _ _
    · exact Nat.le_trans (ih h) (Nat.le_max_right _ _)
theorem atI_nat' {vs : List V} {i : Nat} {x : V} (h : vs[i]? = some x) : atI vs (0 + (i : Int)) = some x := by
  rw [Int.zero_add]
  exact atI_nat h
section
variable {P : Program} {w : World} {K : PySem.W.Frag} {mg : Str → Option Value} {base : Heap}
theorem scSame : FnScope ["_law_found", "_law_due"] ["_law_found", "_law_due"] (defScope sSame) := ⟨rfl, rfl, rfl, by decide +kernel, rfl, by decide +kernel, by decide +kernel⟩
theorem ok_same {f : Addr} {fd : FuncData} (F : Fun K "_law_same" "_law_same" sSame f fd) (b : Binds K fd ["_law_found", "_law_due"] []) (m : mg "_law_same" = some (.ref f)) (T : TxtT mg) (TA : TxtA mg) (KI : Kits K) (KS : KS K) : ∀ N, FnOk P w K mg base CX0 (N + 1) f fd ["_law_found", "_law_due"] (spSame N) := by
  intro N
  induction N with
  | zero =>
    refine F.ok scSame (fun vs H Q E h => ?_) (fun cdv A outer s H vs Q E hr h => ?_)
    · obtain ⟨v, v', t, rfl, _⟩ := h
      rfl
    · obtain ⟨v, v', t, rfl, _, _, _, h, _⟩ := h
      exact absurd h (Nat.not_lt_zero _)
  | succ N ih =>
    refine F.ok scSame (fun vs H Q E h => ?_) (fun cdv A outer s H vs Q E hr h => ?_)
    · obtain ⟨v, v', t, rfl, _⟩ := h
      rfl
    · obtain ⟨v, v', t, rfl, hv, hv', hp, hd, hz, k⟩ := h
      have hsz : sizeLine = 16777216 := sizeLine_eq
      refine' ⟨?tt, ?body, ?fin⟩
      case body =>
        refine' pss_cons ?s1 (pss_cons ?s2 (pss_one ?s3))
        case s1 =>
          refine' ps_if ?c (pss_one ?b1) pss_nil
          case c => exact pt_val (pe_callB call_isinst (by rfl) T.isi (by decide +kernel) (pa_n (pv 1) (pa_n (pe_bltn (v := .ty "tuple") (by rfl) T.tup (by decide +kernel) rfl) pa_nil)))
          case b1 =>
            refine' ps_ret ?r
            case r =>
              refine' pe_and ?x (pe_and ?y (pe_one ?z))
              case x => exact pe_callB call_isinst (by rfl) T.isi (by decide +kernel) (pa_n (pv 0) (pa_n (pe_bltn (v := .ty "tuple") (by rfl) T.tup (by decide +kernel) rfl) pa_nil))
              case y => exact pe_cmpR op_eq (pe_callB call_len_seq (by rfl) T.len PySem.boot_len (pa_n (pv 0) pa_nil)) (pe_callB call_len_seq (by rfl) T.len PySem.boot_len (pa_n (pv 1) pa_nil)) (nomark _)
              case z =>
                refine' pe_callB (call_all_of rfl) (by rfl) TA.all (by decide +kernel) ?a
                case a =>
                  refine' pa_cons ?c pa_nil
                  case c =>
                    refine' pe_comp (N' := ["_law_due", "_law_found", "_law_k"]) (src := [some 1, some 0, none]) ?k1 ?k5 ?k6 ?k7
                    case k1 => rfl
                    case k5 => exact compScope_of (defScope sSame) rfl ["_law_found", "_law_due"] rfl (by decide +kernel)
                    case k6 => exact pi_range1 (by rfl) TA.range (pa_c (pe_callB call_len_seq (by rfl) T.len PySem.boot_len (pa_n (pv 1) pa_nil)) pa_nil)
                    case k7 => exact fun cl C ex s0 H0 => ⟨pg_name (i := 2) nd_dfk rfl (Or.inl rfl), pts_nil, pe_call ih hr (by rfl) m F.kp b .nil pass0 (pa_cons (pe_ix (ix_tupK (K := K) rfl) (pv 1) (pv 2) (fun _ _ => rfl)) (pa_cons (pe_ix (ix_tupK (K := K) rfl) (pv 0) (pv 2) (fun _ _ => rfl)) pa_nil))⟩
        case s2 =>
          refine' ps_if ?c (pss_one ?b1) pss_nil
          case c => exact pt_val (pe_callB call_isinst (by rfl) T.isi (by decide +kernel) (pa_n (pv 1) (pa_n (pe_bltn (v := .ty "str") (by rfl) TA.str (by decide +kernel) rfl) pa_nil)))
          case b1 => exact ps_ret (pe_and (pe_callB call_isinst (by rfl) T.isi (by decide +kernel) (pa_n (pv 0) (pa_n (pe_bltn (v := .ty "str") (by rfl) TA.str (by decide +kernel) rfl) pa_nil))) (pe_one (pe_cmpR op_eq (pv 0) (pv 1) (nomark _))))
        case s3 =>
          refine' ps_ret ?r
          case r =>
            refine' pe_and ?x (pe_and ?y (pe_one ?z))
            case x => exact pe_cmpR op_eq (pe_callB call_isinst (by rfl) T.isi (by decide +kernel) (pa_n (pv 0) (pa_n (pe_bltn (v := .ty "bool") (by rfl) T.bl (by decide +kernel) rfl) pa_nil))) (pe_callB call_isinst (by rfl) T.isi (by decide +kernel) (pa_n (pv 1) (pa_n (pe_bltn (v := .ty "bool") (by rfl) T.bl (by decide +kernel) rfl) pa_nil))) (nomark _)
            case y => exact pe_cmpR op_eq (pe_callB call_isinst (by rfl) T.isi (by decide +kernel) (pa_n (pv 0) (pa_n (pe_bltn (v := .ty "int") (by rfl) T.int (by decide +kernel) rfl) pa_nil))) (pe_callB call_isinst (by rfl) T.isi (by decide +kernel) (pa_n (pv 1) (pa_n (pe_bltn (v := .ty "int") (by rfl) T.int (by decide +kernel) rfl) pa_nil))) (nomark _)
            case z => exact pe_cmpR op_eq (pv 0) (pv 1) (nomark _)
      case fin =>
        refine ⟨_, rfl, _, _, _, _, rfl, th_ty hv', KI.tup hv', _, rfl, ite2 (fun g => ?_) (fun g => ?_)⟩
        · obtain ⟨ts, rfl⟩ : ∃ ts, t = .tup ts := by
            cases t with
            | tup ts => exact ⟨ts, rfl⟩
            | «at» v => cases g
            | lst v => cases g
          obtain ⟨a, vs, rfl, ha, hvs⟩ := th_tup hv
          obtain ⟨a', vs', rfl, ha', hvs'⟩ := th_tup hv'
          have l1 := IsThs.len _ hvs
          have l2 := IsThs.len _ hvs'
          rw [plT] at hp
          rw [dp] at hd
          have zl := szs_len ts
          have ez : Th.sz (.tup ts) = 1 + szs ts := by rw [Th.sz]
          refine ⟨_, rfl, _, _, _, _, rfl, th_ty hv, KI.tup hv, _, rfl, iteT ?_⟩
          refine ⟨_, rfl, a, vs, rfl, .inr (SqT.of ha), _, rfl, a', vs', rfl, .inr (SqT.of ha'), rfl, _, rfl, ite2 (fun g2 => ?_) (fun g2 => absurd (by rw [l1, l2]; simp) g2)⟩
          refine ⟨_, rfl, a', vs', rfl, .inr (SqT.of ha'), _, rfl, by omega, by omega, comp_range (lo := 0) (n := vs'.length) (fun i ys σc H' => ∃ (o : Option V) (bs : List Bool), σc = [some (.ref a'), some (.ref a), o] ∧ ys = bs.map V.bl ∧ bs.length = i ∧ (∀ x ∈ bs, x = true) ∧ Same H H') ⟨none, [], rfl, rfl, rfl, fun x hx => (by cases hx), Same.refl _⟩ ?_ ?_⟩
          · rintro i ys σc H' hi ⟨o, bs, rfl, rfl, hbl, hall, s2⟩
            refine ⟨by rw [List.length_map]; omega, ?_⟩
            have hit : ts[i]? = some (ts[i]'(by omega)) := List.getElem?_eq_getElem (by omega)
            obtain ⟨x, hx, hxt⟩ := ths_at _ hvs hit
            obtain ⟨y, hy, hyt⟩ := ths_at _ hvs' hit
            have hm : ts[i]'(by omega) ∈ ts := List.getElem_mem _
            have hd2 := dps_mem hm
            have hz2 := sz_mem ts _ hm
            refine ⟨_, rfl, _, rfl, a, vs, 0 + (i : Int), x, rfl, rfl, SqT.of (s2 _ _ ha), atI_nat' hx, _, rfl, _, rfl, a', vs', 0 + (i : Int), y, rfl, rfl, SqT.of (s2 _ _ ha'), atI_nat' hy, x, y, _, rfl, IsTh.kp (Kp.of s2) hxt, IsTh.kp (Kp.of s2) hyt, plTs_mem hp hm, by omega, by omega, fun H2 s3 => ?_⟩
            refine nx hi ⟨_, bs ++ [true], rfl, by rw [List.map_append]; rfl, by rw [List.length_append, hbl]; rfl, fun x hx => ?_, s2.trans s3⟩
            rcases List.mem_append.mp hx with z | z
            · exact hall x z
            · exact List.mem_singleton.mp z
          · rintro ys σc H' ⟨o, bs, rfl, rfl, hbl, hall, s2⟩ q hq
            refine ⟨q, bs, rfl, SqL.of upd_same, ?_⟩
            rw [show bs.all id = true from List.all_eq_true.mpr fun x hx => hall x hx]
            exact k _ (s2.trans (same_upd hq))
        · cases t with
          | tup ts => exact absurd rfl g
          | lst ts => rw [plT] at hp; cases hp
          | «at» u =>
            obtain ⟨rfl, _⟩ := th_at hv
            obtain ⟨rfl, _⟩ := th_at hv'
            cases v' with
            | int i =>
              refine ⟨_, rfl, _, _, _, _, rfl, th_ty hv', KS.is, _, rfl, iteF ?_⟩
              refine ⟨_, rfl, _, _, _, _, rfl, th_ty hv, KI.bl hv, _, rfl, _, _, _, _, rfl, th_ty hv', KI.bl hv', rfl, _, rfl, iteT ?_⟩
              refine ⟨_, rfl, _, _, _, _, rfl, th_ty hv, KI.int hv, _, rfl, _, _, _, _, rfl, th_ty hv', KI.int hv', rfl, _, rfl, iteT ?_⟩
              refine ⟨_, rfl, _, rfl, rfl, ?_⟩
              rw [decide_eq_true rfl]
              exact k H (Same.refl _)
            | str x =>
              refine ⟨_, rfl, _, _, _, _, rfl, th_ty hv', KS.ss, _, rfl, iteT ?_⟩
              refine ⟨_, rfl, _, _, _, _, rfl, th_ty hv, KS.ss, _, rfl, iteT ?_⟩
              refine ⟨_, rfl, _, rfl, rfl, ?_⟩
              rw [decide_eq_true rfl]
              exact k H (Same.refl _)
            | _ => simp [plT] at hp
end
end K17

set_option Elab.async false
set_option linter.all false
set_option maxRecDepth 100000
set_option maxHeartbeats 4000000
namespace K17
open PySem L2
/-- the fillings found so far -/
structure DC (H : Hp) (M : Nat) (ks : List Nat) (g : Nat → Th) (kvs : List (Key × V)) : Prop where
  k1 : kvs.map (·.1) = ks.map fun (i : Nat) => (Sum.inl (i : Int) : Key)
  nd : ks.Nodup
  lt : ∀ i ∈ ks, i < 1000
  at1 : ∀ i ∈ ks, PfT M (g i) ∧ ∃ v, valV kvs (.inl (i : Int)) = some v ∧ IsTh H v (g i)
theorem DC.kp {H H' : Hp} {M : Nat} {ks : List Nat} {g : Nat → Th} {kvs : List (Key × V)} (k : Kp H H') (d : DC H M ks g kvs) : DC H' M ks g kvs :=
  ⟨d.k1, d.nd, d.lt, fun i hi => let ⟨a, v, b, c⟩ := d.at1 i hi; ⟨a, v, b, IsTh.kp k c⟩⟩
theorem DC.no {H : Hp} {M : Nat} {ks : List Nat} {g : Nat → Th} {kvs : List (Key × V)} (d : DC H M ks g kvs) {i : Nat} (h : i ∉ ks) : valV kvs (.inl (i : Int)) = none := by
  cases e : valV kvs (.inl (i : Int)) with
  | none => rfl
  | some v => exact absurd (in_keys (by rw [← d.k1]; exact valV_in e)) h
theorem DC.len {H : Hp} {M : Nat} {ks : List Nat} {g : Nat → Th} {kvs : List (Key × V)} (d : DC H M ks g kvs) : kvs.length < sizeLine := by
  have e2 := congrArg List.length d.k1
  rw [List.length_map, List.length_map] at e2
  have e3 := few d.nd d.lt
  have : sizeLine = 16777216 := sizeLine_eq
  omega
theorem DC.put {H : Hp} {M : Nat} {ks : List Nat} {g : Nat → Th} {kvs : List (Key × V)} (d : DC H M ks g kvs) {i : Nat} (hi : i < 1000) {v : V} {t : Th} (hp : PfT M t) (hv : IsTh H v t) :
    DC H M (if i ∈ ks then ks else ks ++ [i]) (fun j => if j = i then t else g j) (putK kvs (.inl (i : Int)) v) := by
  have hval : ∀ j ∈ (if i ∈ ks then ks else ks ++ [i]), PfT M (if j = i then t else g j) ∧ ∃ u, valV (putK kvs (.inl (i : Int)) v) (.inl (j : Int)) = some u ∧ IsTh H u (if j = i then t else g j) := by
    intro j hj
    rw [valV_put]
    by_cases e : j = i
    · subst e
      rw [if_pos rfl, if_pos rfl]
      exact ⟨hp, v, rfl, hv⟩
    · have hne : ¬ (Sum.inl (j : Int) : Key) = Sum.inl (i : Int) := fun z => e (by injection z with z; omega)
      rw [if_neg hne, if_neg e]
      refine d.at1 j ?_
      split at hj
      · exact hj
      · rcases List.mem_append.mp hj with z | z
        · exact z
        · exact absurd (List.mem_singleton.mp z) e
  by_cases h : i ∈ ks
  · obtain ⟨_, u, b, _⟩ := d.at1 i h
    rw [if_pos h] at hval ⊢
    exact ⟨by rw [keys_put b]; exact d.k1, d.nd, d.lt, hval⟩
  · rw [if_neg h] at hval ⊢
    refine ⟨?_, ?_, ?_, hval⟩
    · rw [putK_new v (d.no h), List.map_append, List.map_append, d.k1]; rfl
    · rw [List.nodup_append]
      refine ⟨d.nd, by simp, fun a ha b hb => ?_⟩
      rw [List.mem_singleton] at hb
      subst hb
      exact fun z => h (z ▸ ha)
    · intro j hj
      rcases List.mem_append.mp hj with z | z
      · exact d.lt j z
      · rw [List.mem_singleton.mp z]; exact hi
/-- no clash: what was found stays found, and fills the pattern -/
def Well (ks ks' : List Nat) (g g' : Nat → Th) (ps : List (Th × Th)) : Prop := (∀ i ∈ ks, i ∈ ks' ∧ g' i = g i) ∧ ∀ σ : Nat → Th, (∀ i ∈ ks', σ i = g' i) → ∀ e ∈ ps, fl σ e.1 = e.2
def spClash (N M : Nat) : Sp := fun vs H Q _ => ∃ (v1 v2 : V) (da : Addr) (p f : Th) (kvs : List (Key × V)) (ks : List Nat) (g : Nat → Th), vs = [v1, v2, .ref da] ∧ IsTh H v1 p ∧ PfT N p ∧ IsTh H v2 f ∧ PfT M f ∧ H da = some (.dK kvs) ∧ DC H M ks g kvs ∧ (∀ i ∈ hs p, i < 1000) ∧
  ∀ (b : Bool) kvs' ks' g' H', But da H H' → H' da = some (.dK kvs') → DC H' M ks' g' kvs' → (b = false → Well ks ks' g g' [(p, f)]) → Q (.bl b) H'
theorem Well.trans {a b c : List Nat} {g g1 g2 : Nat → Th} {A B : List (Th × Th)} (x : Well a b g g1 A) (y : Well b c g1 g2 B) : Well a c g g2 (A ++ B) := by
  refine ⟨fun i hi => ?_, fun σ hσ e he => ?_⟩
  · obtain ⟨h1, h2⟩ := x.1 i hi
    obtain ⟨h3, h4⟩ := y.1 i h1
    exact ⟨h3, by rw [h4, h2]⟩
  · rcases List.mem_append.mp he with z | z
    · refine x.2 σ (fun i hi => ?_) e z
      obtain ⟨h3, h4⟩ := y.1 i hi
      rw [hσ i h3, h4]
    · exact y.2 σ hσ e z
theorem pf_tup {n : Nat} {t : Th} (h : PfT n t) : ∃ xs, t = .tup xs ∧ plTs xs = true ∧ dps xs ≤ n := by
  have hp := PfT.pl n h
  have hd := PfT.dp n h
  cases t with
  | tup xs =>
    rw [plT] at hp
    rw [L2.dp] at hd
    exact ⟨xs, rfl, hp, by omega⟩
  | «at» v => exact absurd h.isTup (by simp [L2.isTup])
  | lst v => exact absurd h.isTup (by simp [L2.isTup])
theorem But.kd {d : Addr} {H H' : Hp} {kvs : List (Key × V)} (b : But d H H') (h : H d = some (.dK kvs)) : Kp H H' := fun c o e n => b c o e fun z => by rw [z, h] at e; cases e; exact n _ rfl
theorem nd_fiko : (["_law_found", "_law_inner", "_law_k", "_law_others"] : List Str).Nodup := by decide +kernel
section
variable {P : Program} {w : World} {K : PySem.W.Frag} {mg : Str → Option Value} {base : Heap}
theorem scClash : FnScope ["_law_pattern", "_law_other", "_law_found", "_law_inner", "_law_others"] ["_law_pattern", "_law_other", "_law_found"] (defScope sClash) := ⟨rfl, rfl, rfl, by decide +kernel, rfl, by decide +kernel, by decide +kernel⟩
theorem ok_clash {f fP fW : Addr} {fd dP dW : FuncData} (F : Fun K "_law_clash" "_law_clash" sClash f fd) (b : Binds K fd ["_law_pattern", "_law_other", "_law_found"] []) (m : mg "_law_clash" = some (.ref f)) (U : HW K mg fP fW dP dW) (TA : TxtA mg) (M : Nat) (hM : M ≤ 50) : ∀ N, FnOk P w K mg base CX0 (N + 2) f fd ["_law_pattern", "_law_other", "_law_found"] (spClash N M) := by
  have GP : FnOk P w K mg base CX0 1 fP dP ["_law_e"] spLawParts := ok_lawparts U.P U.T U.KI
  have GW : FnOk P w K mg base CX0 1 fW dW ["_law_e", "_law_inner"] spWith := ok_with U.W U.T U.KI
  intro N
  induction N with
  | zero =>
    refine F.ok scClash (fun vs H Q E h => ?_) (fun cdv A outer s H vs Q E hr h => ?_)
    · obtain ⟨v1, v2, da, p, f, kvs, ks, g, rfl, _⟩ := h
      rfl
    · obtain ⟨v1, v2, da, p, f, kvs, ks, g, rfl, _, h, _⟩ := h
      exact h.elim
  | succ N ih =>
    refine F.ok scClash (fun vs H Q E h => ?_) (fun cdv A outer s H vs Q E hr h => ?_)
    · obtain ⟨v1, v2, da, p, f, kvs, ks, g, rfl, _⟩ := h
      rfl
    · obtain ⟨v1, v2, da, p, f, kvs, ks, g, rfl, hv1, hD, hv2, hf, hda, dc, hlt, k⟩ := h
      have hsz : sizeLine = 16777216 := sizeLine_eq
      have hr1 : Room 1 _ := hr.mono (by omega)
      have hu : (_ : Around).units + (M + 1) < cLine := Nat.lt_of_le_of_lt (Nat.add_le_add_left (by omega : M + 1 ≤ 64) _) hr.units
      have hu1 : (_ : Around).units + 1 < cLine := Nat.lt_of_le_of_lt (Nat.add_le_add_left (by decide) _) hr.units
      refine' ⟨?tt, ?body, ?fin⟩
      case body =>
        refine' pss_cons ?s1 (pss_cons ?s2 (pss_cons ?s3 (pss_cons ?s4 (pss_one ?s5))))
        case s1 =>
          refine' ps_if ?c (pss_cons ?b1 (pss_cons ?b2 (pss_one ?b3))) pss_nil
          case c => exact pt_cmpR op_eq (pe_ix ix_tup (pv 0) pe_int (fun _ _ => rfl)) pe_str (nomark _)
          case b1 =>
            refine' ps_if ?c2 (pss_one ?b4) pss_nil
            case c2 => exact (pw_and (pt_cmp (pc_din hu1 (pe_ix ix_tup (pv 0) pe_int (fun _ _ => rfl)) (pv 2)) (by with_unfolding_all rfl)) (pw_and1 (pt_cmpR (op_neTh (K := K) rfl M hu) (pe_dget hu1 (pv 2) (pe_ix ix_tup (pv 0) pe_int (fun _ _ => rfl)) (fun _ _ => rfl)) (pv 1) (nomark _)))).pt
            case b4 => exact ps_ret pe_bl
          case b2 => exact ps_dput hu1 (pv 2) (pe_ix ix_tup (pv 0) pe_int (fun _ _ => rfl)) (pv 1) rfl
          case b3 => exact ps_ret pe_bl
        case s2 => exact ps_set (i := 3) scClash.nd rfl (Or.inr rfl) (pe_call GP hr1 (by rfl) U.mP U.P.kp U.bP .nil pass0 (pa_n (pv 0) pa_nil))
        case s3 => exact ps_set (i := 4) scClash.nd rfl (Or.inr rfl) (pe_call GP hr1 (by rfl) U.mP U.P.kp U.bP .nil pass0 (pa_n (pv 1) pa_nil))
        case s4 =>
          refine' ps_if ?c (pss_one ?b5) pss_nil
          case c => exact (pw_or (pt_cmpR op_ne (pe_callB call_len_seq (by rfl) U.T.len PySem.boot_len (pa_n (pv 3) pa_nil)) (pe_callB call_len_seq (by rfl) U.T.len PySem.boot_len (pa_n (pv 4) pa_nil)) (nomark _)) (pw_or1 (pt_cmpR (op_neTh (K := K) rfl M hu) (pe_call GW hr1 (by rfl) U.mW U.W.kp U.bW .nil pass0 (pa_n (pv 0) (pa_n (pv 4) pa_nil))) (pv 1) (nomark _)))).pt
          case b5 => exact ps_ret pe_bl
        case s5 =>
          refine' ps_ret ?r
          case r =>
            refine' pe_callB (call_any_of rfl) (by rfl) TA.any (by decide +kernel) ?a
            case a =>
              refine' pa_cons ?c pa_nil
              case c =>
                refine' pe_comp (N' := ["_law_found", "_law_inner", "_law_k", "_law_others"]) (src := [some 2, some 3, none, some 4]) ?k1 ?k5 ?k6 ?k7
                case k1 => rfl
                case k5 => exact compScope_of (defScope sClash) rfl ["_law_pattern", "_law_other", "_law_found", "_law_inner", "_law_others"] rfl (by decide +kernel)
                case k6 => exact pi_range1 (by rfl) TA.range (pa_c (pe_callB call_len_seq (by rfl) U.T.len PySem.boot_len (pa_n (pv 3) pa_nil)) pa_nil)
                case k7 => exact fun cl C ex s0 H0 => ⟨pg_name (i := 2) nd_fiko rfl (Or.inl rfl), pts_nil, pe_call ih hr (by rfl) m F.kp b .nil pass0 (pa_cons (pe_ix (ix_listK (K := K) rfl) (pv 1) (pv 2) (fun _ _ => rfl)) (pa_cons (pe_ix (ix_listK (K := K) rfl) (pv 3) (pv 2) (fun _ _ => rfl)) (pa_n (pv 0) pa_nil)))⟩
      case fin =>
        have pp0 := hD
        obtain ⟨w0, hd, kt, rfl, h1, h2, h3, h4, h5, h6⟩ := hD
        have nk : ∀ k ∈ kt, L2.isTup k = true := fun k hk => (h6 k hk).isTup
        obtain ⟨fs, efs, fpl, fdp⟩ := pf_tup hf
        obtain ⟨an, vns, rfl, han, hvns⟩ := th_tup hv1
        cases hvns with
        | @cons vh vr _ _ c1 c2 =>
          obtain ⟨rfl, _⟩ := th_at c1
          refine ⟨_, rfl, an, _, 0, .str w0, rfl, rfl, SqT.of han, at_head _ _, rfl, _, rfl, ite2 (fun g2 => ?_) (fun g2 => ?_)⟩
          · have hw0 : w0 = "hole" := by
              have g' := of_decide_eq_true g2
              injection g'
            subst hw0
            obtain ⟨i, rfl, rfl⟩ := h4 rfl
            cases c2 with
            | @cons vi vr2 _ _ c3 c4 =>
              cases c4
              obtain ⟨rfl, _⟩ := th_at c3
              have hi1 : i < 1000 := hlt i (by rw [hs_hole]; exact List.mem_singleton.mpr rfl)
              have fin : (i ∈ ks → g i = f) → Q (.bl false) (upd H da (.dK (putK kvs (.inl ((i : Nat) : Int)) v2))) := by
                intro hg
                refine k false _ _ _ _ But.upd upd_same ((dc.put hi1 hf hv2).kp (kp_dk hda)) fun _ => ⟨fun j hj => ⟨?_, ?_⟩, fun σ hσ e he => ?_⟩
                · split
                  · exact hj
                  · exact List.mem_append_left _ hj
                · show (if j = i then f else g j) = g j
                  split
                  · next z => rw [z] at hj ⊢; exact (hg hj).symm
                  · rfl
                · rw [List.mem_singleton] at he
                  subst he
                  show fl σ (nd "hole" [.int (i : Nat)] []) = f
                  rw [fl_hole]
                  have := hσ i (by
                    split
                    · assumption
                    · exact List.mem_append_right _ (List.mem_singleton.mpr rfl))
                  rw [this]
                  show (if i = i then f else g i) = f
                  rw [if_pos rfl]
              have hget := DGet.k (k := .inl ((i : Nat) : Int)) hda
              refine ⟨_, rfl, an, _, 1, .int (i : Nat), rfl, rfl, SqT.of han, at_next _ _ _, _, rfl, da, _, rfl, hget, _, rfl, ite2 (fun g3 => ?_) (fun g3 => iteF ?_)⟩
              · have hik : i ∈ ks := by
                  by_cases z : i ∈ ks
                  · exact z
                  · rw [dc.no z] at g3; cases g3
                obtain ⟨pg, vg, eg, tg⟩ := dc.at1 i hik
                obtain ⟨gs, egs, gpl, gdp⟩ := pf_tup pg
                rw [eg] at hget
                refine ⟨_, rfl, _, rfl, an, _, 1, .int (i : Nat), rfl, rfl, SqT.of han, at_next _ _ _, da, vg, rfl, hget, _, rfl, gs, fs, by rw [← egs]; exact tg, by rw [← efs]; exact hv2, gpl, fpl, gdp, fdp, fun e => ⟨_, rfl, iteF ?_⟩, fun ne => ⟨_, rfl, iteT ?_⟩⟩
                · exact ⟨_, rfl, _, rfl, _, rfl, an, _, 1, .int (i : Nat), rfl, rfl, SqT.of han, at_next _ _ _, da, _, rfl, DPut.k (k := .inl ((i : Nat) : Int)) hda dc.len, fin fun _ => by rw [egs, efs, e]⟩
                · exact k true _ _ _ _ (But.refl _ _) hda dc fun z => by cases z
              · have hik : i ∉ ks := fun z => by
                  obtain ⟨pg, vg, eg, tg⟩ := dc.at1 i z
                  exact g3 (by rw [eg]; rfl)
                exact ⟨_, rfl, _, rfl, _, rfl, an, _, 1, .int (i : Nat), rfl, rfl, SqT.of han, at_next _ _ _, da, _, rfl, DPut.k (k := .inl ((i : Nat) : Int)) hda dc.len, fin fun z => absurd z hik⟩
          · have hw0 : w0 ≠ "hole" := fun z => g2 (by rw [z]; decide +kernel)
            have hf0 := hf
            obtain ⟨M', eM⟩ : ∃ M', M = M' + 1 := by
              cases M with
              | zero => exact hf.elim
              | succ M' => exact ⟨M', rfl⟩
            subst eM
            obtain ⟨w1, hd1, ku, ef, u1, u2, u3, u4, u5, u6⟩ := hf0
            subst ef
            have nu : ∀ k ∈ ku, L2.isTup k = true := fun k hk => (u6 k hk).isTup
            refine ⟨_, rfl, .ref an, w0, hd.map Th.at ++ kt, rfl, hv1, by rw [List.length_append, List.length_map]; omega, fun p1 ws1 H1 s1 hp10 hp1 hw1 => ?_⟩
            refine ⟨_, rfl, v2, w1, hd1.map Th.at ++ ku, rfl, IsTh.kp (Kp.of s1) hv2, by rw [List.length_append, List.length_map]; omega, fun p2 ws2 H2 s2 hp20 hp2 hw2 => ?_⟩
            rw [kids_of nk] at hw1
            rw [kids_of nu] at hw2
            have l1 := IsThs.len _ hw1
            have l2 := IsThs.len _ hw2
            have s12 := s1.trans s2
            have tru : ∀ H', Same H2 H' → Q (.bl true) H' := fun H' s' => k true kvs ks g H' (But.of (s12.trans s')) (s' _ _ (s12 _ _ hda)) (dc.kp (Kp.of (s12.trans s'))) fun z => by cases z
            refine ⟨_, rfl, p1, ws1, rfl, .inl (SqL.of (s2 _ _ hp1)), _, rfl, p2, ws2, rfl, .inl (SqL.of hp2), rfl, _, rfl, ite2 (fun g3 => iteT (tru _ (Same.refl _))) (fun g3 => ?_)⟩
            have hll : ws1.length = ws2.length := by
              by_cases z : ws1.length = ws2.length
              · exact z
              · exact absurd (by simp; omega) g3
            refine ⟨_, rfl, _, rfl, .ref an, p2, _, ku, ws2, rfl, IsTh.kp (Kp.of s12) hv1, by rw [List.length_cons, List.length_append, List.length_map]; omega, hp2, hw2, by omega, fun r H3 s3 hr3 => ?_⟩
            rw [lead_nd nk] at hr3
            have hfs : PfT (M' + 1) (nd w1 hd1 ku) := hf
            refine ⟨_, rfl, .at (.str w0) :: (hd.map Th.at ++ ku), fs, hr3, by rw [← efs]; exact IsTh.kp (Kp.of (s12.trans s3)) hv2, ?_, fpl, ?_, fdp, fun e => ⟨_, rfl, iteF ?_⟩, fun ne => ⟨_, rfl, iteT (tru _ s3)⟩⟩
            · rw [plTs, plTs_app, plTs_all (a := hd.map Th.at) fun x hx => ?_, plTs_all (a := ku) fun x hx => (u6 x hx).pl, plT]
              · rfl
              · obtain ⟨v, hv, rfl⟩ := List.mem_map.mp hx
                exact h2 v hv
            · refine dps_le fun x hx => ?_
              rcases List.mem_cons.mp hx with rfl | hx
              · rw [L2.dp]; exact Nat.zero_le _
              · rcases List.mem_append.mp hx with z | z
                · obtain ⟨v, _, rfl⟩ := List.mem_map.mp z
                  rw [L2.dp]; exact Nat.zero_le _
                · exact Nat.le_succ_of_le (PfT.dp _ (u6 x z))
            · have ew : w0 = w1 ∧ hd = hd1 := by
                have e2 : nd w0 hd ku = nd w1 hd1 ku := by rw [efs]; unfold nd; rw [e]
                have := nd_inj nu nu e2
                exact ⟨this.1, this.2.1⟩
              obtain ⟨rfl, rfl⟩ := ew
              have hda3 := s3 _ _ (s12 _ _ hda)
              have p13 := s3 _ _ (s2 _ _ hp1)
              have p23 := s3 _ _ hp2
              have hpd1 : p1 ≠ da := ne_of p13 hda3 (by intro q; cases q)
              have hpd2 : p2 ≠ da := ne_of p23 hda3 (by intro q; cases q)
              refine ⟨_, rfl, p1, ws1, rfl, .inl (SqL.of p13), _, rfl, by omega, by omega, comp_range (lo := 0) (n := ws1.length) (fun i ys σc H' => ∃ (o : Option V) (bs : List Bool) (kvs' : List (Key × V)) (ks' : List Nat) (g' : Nat → Th), σc = [some (.ref da), some (.ref p1), o, some (.ref p2)] ∧ ys = bs.map V.bl ∧ bs.length = i ∧ But da H3 H' ∧ H' da = some (.dK kvs') ∧ DC H' (M' + 1) ks' g' kvs' ∧ ((∀ x ∈ bs, x = false) → Well ks ks' g g' ((kt.zip ku).take i)))
                ⟨none, [], kvs, ks, g, rfl, rfl, rfl, But.refl _ _, hda3, dc.kp (Kp.of (s12.trans s3)), fun _ => ⟨fun i hi => ⟨hi, rfl⟩, fun σ _ e he => (by simp at he)⟩⟩ ?_ ?_⟩
              · rintro i ys σc H' hi ⟨o, bs, kvs', ks', g', rfl, rfl, hbl, b2, hd2, dc2, hw⟩
                refine ⟨by rw [List.length_map]; omega, ?_⟩
                have e1 : kt[i]? = some (kt[i]'(by omega)) := List.getElem?_eq_getElem (by omega)
                have e2 : ku[i]? = some (ku[i]'(by omega)) := List.getElem?_eq_getElem (by omega)
                obtain ⟨x, hx, hxt⟩ := ths_at _ hw1 e1
                obtain ⟨y, hy, hyt⟩ := ths_at _ hw2 e2
                have kp2 := But.kd b2 hda3
                have m1 : kt[i]'(by omega) ∈ kt := List.getElem_mem _
                have m2 : ku[i]'(by omega) ∈ ku := List.getElem_mem _
                refine ⟨_, rfl, _, rfl, p1, ws1, 0 + (i : Int), x, rfl, rfl, SqL.of (b2 _ _ p13 hpd1), atI_nat' hx, _, rfl, _, rfl, p2, ws2, 0 + (i : Int), y, rfl, rfl, SqL.of (b2 _ _ p23 hpd2), atI_nat' hy, _, rfl, x, y, da, _, _, kvs', ks', g', rfl, IsTh.kp kp2 (IsTh.kp (Kp.of (s2.trans s3)) hxt), h6 _ m1, IsTh.kp kp2 (IsTh.kp (Kp.of s3) hyt), (u6 _ m2).up, hd2, dc2, fun j hj => hlt j ((hs_nd hw0).mpr ⟨_, m1, hj⟩), fun b' kvs'' ks'' g'' H4 b4 hd4 dc4 hw4 => ?_⟩
                refine nx hi ⟨_, bs ++ [b'], kvs'', ks'', g'', rfl, by rw [List.map_append]; rfl, by rw [List.length_append, hbl]; rfl, b2.trans b4, hd4, dc4, fun hal => ?_⟩
                have ez : (kt.zip ku)[i]? = some (kt[i]'(by omega), ku[i]'(by omega)) := List.getElem?_zip_eq_some.mpr ⟨e1, e2⟩
                rw [List.take_add_one, ez]
                exact (hw fun x hx => hal x (List.mem_append_left _ hx)).trans (hw4 (hal b' (List.mem_append_right _ (List.mem_singleton.mpr rfl))))
              · rintro ys σc H' ⟨o, bs, kvs', ks', g', rfl, rfl, hbl, b2, hd2, dc2, hw⟩ q hq
                have sq := same_upd (o := .lst (bs.map V.bl)) hq
                refine ⟨q, bs, rfl, SqL.of upd_same, ?_⟩
                refine k _ kvs' ks' g' _ ((But.of (s12.trans s3)).trans (b2.trans (But.of sq))) (sq _ _ hd2) (dc2.kp (Kp.of sq)) fun hb => ?_
                have hal : ∀ x ∈ bs, x = false := fun x hx => by
                  cases x with
                  | false => rfl
                  | true =>
                    have : bs.any id = true := List.any_eq_true.mpr ⟨true, hx, rfl⟩
                    rw [this] at hb
                    cases hb
                obtain ⟨q1, q2⟩ := hw hal
                refine ⟨q1, fun σ hσ e he => ?_⟩
                rw [List.mem_singleton] at he
                subst he
                show fl σ (nd w0 hd kt) = nd w0 hd ku
                have hlk : kt.length = ku.length := by omega
                rw [fl_nd hw0, (zip_all hlk).mpr fun e he => q2 σ hσ e (by rw [List.take_of_length_le (by rw [List.length_zip]; omega)]; exact he)]
end
end K17

set_option Elab.async false
set_option linter.all false
set_option maxRecDepth 100000
set_option maxHeartbeats 4000000
namespace K17
open PySem L2
def bdS (k l : Th) : Nat := Th.sz k + cnt k * Th.sz l
def spBent (N M : Nat) : Sp := fun vs H Q _ => ∃ (v vl : V) (z : Int) (t l : Th), vs = [v, .int z, vl] ∧ IsTh H v t ∧ PfT N t ∧ IsTh H vl l ∧ PfT M l ∧
  ∀ (v' : V) (t' : Th) H', Same H H' → IsTh H' v' t' → PfT (N + M) t' → Th.sz t' ≤ bdS t l → Q v' H'
theorem ths_set {H : Hp} : ∀ (vs : List V) {us : List Th} (i : Nat) {v : V} {t : Th}, IsThs H vs us → IsTh H v t → IsThs H (vs.set i v) (us.set i t) := by
  intro vs
  induction vs with
  | nil => intro us i v t h _; cases h; exact .nil
  | cons w vs ih =>
    intro us i v t h hv
    cases h with
    | cons a b =>
      cases i with
      | zero => exact .cons hv b
      | succ i => exact .cons a (ih i b hv)
theorem ix_of {n : Nat} {i : Nat} (h : i < n) : ixN n (0 + (i : Int)) = some i := by
  unfold ixN
  rw [if_pos (by omega), if_pos (by omega)]
  congr 1
  omega
theorem szs_bd {l : Th} : ∀ (us ks : List Th), us.length = ks.length → (∀ (j : Nat) (u k : Th), us[j]? = some u → ks[j]? = some k → Th.sz u ≤ bdS k l) → szs us ≤ szs ks + cnts ks * Th.sz l := by
  intro us
  induction us with
  | nil => intro ks _ _; rw [szs]; exact Nat.zero_le _
  | cons u us ih =>
    intro ks hl h
    match ks, hl with
    | k :: ks, hl =>
      have h1 := h 0 u k rfl rfl
      have h2 := ih ks (by simpa using hl) fun j u k a b => h (j + 1) u k (by simpa using a) (by simpa using b)
      rw [szs, szs, cnts, Nat.add_mul]
      unfold bdS at h1
      omega
theorem sz_nd {w : Str} {hd : List V} {ks : List Th} : Th.sz (nd w hd ks) = 1 + (1 + (szs (hd.map Th.at) + szs ks)) := by
  unfold nd
  rw [Th.sz, szs, szs_app, Th.sz]
section
variable {P : Program} {w : World} {K : PySem.W.Frag} {mg : Str → Option Value} {base : Heap}
theorem scBent : FnScope ["_law_b", "_law_at", "_law_leaf_here", "_law_inner", "_law_k", "_law_long"] ["_law_b", "_law_at", "_law_leaf_here"] (defScope sBent) := ⟨rfl, rfl, rfl, by decide +kernel, rfl, by decide +kernel, by decide +kernel⟩
theorem ok_bent {f fP fW fN : Addr} {fd dP dW dN : FuncData} (F : Fun K "_law_bent" "_law_bent" sBent f fd) (b : Binds K fd ["_law_b", "_law_at", "_law_leaf_here"] []) (m : mg "_law_bent" = some (.ref f)) (U : HW K mg fP fW dP dW) (TA : TxtA mg) (hsum : mg "sum" = none)
    (FN : Fun K "_law_nodes" "_law_nodes" sNodes fN dN) (bN : Binds K dN ["_law_e"] []) (mN : mg "_law_nodes" = some (.ref fN)) (M : Nat) : ∀ N, FnOk P w K mg base CX0 (N + 3) f fd ["_law_b", "_law_at", "_law_leaf_here"] (spBent N M) := by
  have GP : FnOk P w K mg base CX0 1 fP dP ["_law_e"] spLawParts := ok_lawparts U.P U.T U.KI
  have GW : FnOk P w K mg base CX0 1 fW dW ["_law_e", "_law_inner"] spWith := ok_with U.W U.T U.KI
  have GN : ∀ N, FnOk P w K mg base CX0 (N + 2) fN dN ["_law_e"] (spNodes N) := ok_nodes FN bN mN U.T U.KI hsum U.P U.bP U.mP
  intro N
  induction N with
  | zero =>
    refine F.ok scBent (fun vs H Q E h => ?_) (fun cdv A outer s H vs Q E hr h => ?_)
    · obtain ⟨v, vl, z, t, l, rfl, _⟩ := h
      rfl
    · obtain ⟨v, vl, z, t, l, rfl, _, h, _⟩ := h
      exact h.elim
  | succ N ih =>
    refine F.ok scBent (fun vs H Q E h => ?_) (fun cdv A outer s H vs Q E hr h => ?_)
    · obtain ⟨v, vl, z, t, l, rfl, _⟩ := h
      rfl
    · obtain ⟨v, vl, z, t, l, rfl, hv, hD, hvl, hl, k⟩ := h
      have hsz : sizeLine = 16777216 := sizeLine_eq
      have hr1 : Room 1 _ := hr.mono (by omega)
      have hrN : Room (N + 2) _ := hr.mono (by omega)
      refine' ⟨?tt, ?body, ?fin⟩
      case body =>
        refine' pss_cons ?s1 (pss_cons ?s2 (pss_cut ?s3 (pss_cons ?s4 (pss_one ?s5))))
        case s1 => exact ps_if (pt_cmpR op_eq (pv 1) pe_int (nomark _)) (pss_one (ps_ret (pv 2))) pss_nil
        case s2 => exact ps_set (i := 3) scBent.nd rfl (Or.inl rfl) (pe_call GP hr1 (by rfl) U.mP U.P.kp U.bP .nil pass0 (pa_n (pv 0) pa_nil))
        case s3 => exact ps_set (i := 1) scBent.nd rfl (Or.inl rfl) (pe_op op_sub (pv 1) pe_int)
        case s4 =>
          refine' ps_for PassesOwn.never rfl (pi_range1 (by rfl) TA.range (pa_c (pe_callB call_len_seq (by rfl) U.T.len PySem.boot_len (pa_n (pv 3) pa_nil)) pa_nil)) (pg_name (i := 4) scBent.nd rfl (Or.inl rfl)) (pss_cons ?b1 (pss_cut ?b2 (pss_one ?b3)))
          case b1 => exact ps_set (i := 5) scBent.nd rfl (Or.inl rfl) (pe_call (GN N) hrN (by rfl) mN FN.kp bN .nil pass0 (pa_cons (pe_ix ix_list (pv 3) (pv 4) (fun _ _ => rfl)) pa_nil))
          case b2 =>
            refine' ps_if ?c (pss_one ?d1) pss_nil
            case c => exact pt_chain op_le op_lt pe_int (pv 1) (pv 5)
            case d1 => exact ps_asg (pe_call ih hr (by rfl) m F.kp b .nil pass0 (pa_cons (pe_ix ix_list (pv 3) (pv 4) (fun _ _ => rfl)) (pa_n (pv 1) (pa_n (pv 2) pa_nil)))) (pg_sub (pv 3) (pv 4) set_list)
          case b3 => exact ps_set (i := 1) scBent.nd rfl (Or.inl rfl) (pe_op op_sub (pv 1) (pv 5))
        case s5 => exact ps_ret (pe_call GW hr1 (by rfl) U.mW U.W.kp U.bW .nil pass0 (pa_n (pv 0) (pa_n (pv 3) pa_nil)))
      case fin =>
        have hct := cnt_pf hD
        have pD := hD
        obtain ⟨w0, hd, kt, rfl, h1, h2, h3, h4, h5, h6⟩ := hD
        have nk : ∀ k ∈ kt, L2.isTup k = true := fun k hk => (h6 k hk).isTup
        refine ⟨_, rfl, rfl, _, rfl, ite2 (fun g => ?_) (fun g => ?_)⟩
        · refine ⟨_, rfl, k vl l H (Same.refl _) hvl (hl.le (by omega)) ?_⟩
          unfold bdS
          have := Nat.mul_le_mul_right (Th.sz l) hct
          omega
        · refine ⟨_, rfl, v, w0, hd.map Th.at ++ kt, rfl, hv, by rw [List.length_append, List.length_map]; omega, fun p ws H1 s1 hp0 hp hws => ?_⟩
          rw [kids_of nk] at hws
          have hwl := IsThs.len _ hws
          refine ⟨fun σ' H' => σ' = [some v, some (.int (z - 1)), some vl, some (.ref p), none, none] ∧ H' = H1, ⟨_, rfl, _, _, rfl, rfl, rfl, rfl⟩, ?_⟩
          rintro σ3 H3 ⟨rfl, rfl⟩
          refine ⟨_, rfl, p, ws, rfl, .inl (SqL.of hp), (ws.length : Int), rfl, by omega, by omega, for_range (fun i σ' H' => ∃ (z' : Int) (o4 o5 : Option V) (us : List Th) (ws' : List V), σ' = [some v, some (.int z'), some vl, some (.ref p), o4, o5] ∧ But p H3 H' ∧ H' p = some (.lst ws') ∧ IsThs H' ws' us ∧ us.length = kt.length ∧ (∀ u ∈ us, PfT (N + M) u) ∧ (∀ j, i ≤ j → us[j]? = kt[j]?) ∧ ∀ (j : Nat) (u k : Th), us[j]? = some u → kt[j]? = some k → Th.sz u ≤ bdS k l)
            ⟨z - 1, none, none, kt, ws, rfl, But.refl _ _, hp, hws, rfl, fun u hu => (h6 u hu).le (by omega), fun _ _ => rfl, fun j u k a b => ?_⟩ ?_ ?_⟩
          · rw [a] at b
            cases b
            exact Nat.le_add_right _ _
          · rintro i σ' H' hi ⟨z', o4, o5, us, ws', rfl, b2, hp2, hws2, hul, hupf, hsame, hbd⟩
            have hi' : i < kt.length := by omega
            have hlw := IsThs.len _ hws2
            have hki : kt[i]? = some kt[i] := List.getElem?_eq_getElem hi'
            have hui : us[i]? = some kt[i] := by rw [hsame i (Nat.le_refl _)]; exact hki
            obtain ⟨x, hx, hxt⟩ := ths_at _ hws2 hui
            have hm := h6 _ (List.getElem_mem hi')
            refine ⟨_, rfl, _, rfl, p, ws', 0 + (i : Int), x, rfl, rfl, SqL.of hp2, atI_nat' hx, x, kt[i], rfl, hxt, hm, fun H4 s4 => ?_⟩
            have hp4 := s4 _ _ hp2
            have b4 := b2.trans (But.of (d := p) s4)
            have hws4 := IsThs.kp (Kp.of s4) hws2
            refine ⟨fun σ' H' => ∃ (o5 : Option V) (us : List Th) (ws' : List V), σ' = [some v, some (.int z'), some vl, some (.ref p), some (.int (0 + (i : Int))), some (.int (cnt kt[i] : Nat))] ∧ But p H3 H' ∧ H' p = some (.lst ws') ∧ IsThs H' ws' us ∧ us.length = kt.length ∧ (∀ u ∈ us, PfT (N + M) u) ∧ (∀ j, i + 1 ≤ j → us[j]? = kt[j]?) ∧ ∀ (j : Nat) (u k : Th), us[j]? = some u → kt[j]? = some k → Th.sz u ≤ bdS k l, ?_, ?_⟩
            · have stay : ∃ (o5 : Option V) (us : List Th) (ws' : List V), [some v, some (.int z'), some vl, some (.ref p), some (.int (0 + (i : Int))), some (.int (cnt kt[i] : Nat))] = [some v, some (.int z'), some vl, some (.ref p), some (.int (0 + (i : Int))), some (.int (cnt kt[i] : Nat))] ∧ But p H3 H4 ∧ H4 p = some (.lst ws') ∧ IsThs H4 ws' us ∧ us.length = kt.length ∧ (∀ u ∈ us, PfT (N + M) u) ∧ (∀ j, i + 1 ≤ j → us[j]? = kt[j]?) ∧ ∀ (j : Nat) (u k : Th), us[j]? = some u → kt[j]? = some k → Th.sz u ≤ bdS k l :=
                ⟨none, us, ws', rfl, b4, hp4, hws4, hul, hupf, fun j hj => hsame j (by omega), hbd⟩
              refine ⟨_, rfl, _, _, rfl, rfl, _, rfl, ite2 (fun g1 => ⟨_, rfl, _, _, rfl, rfl, _, rfl, ite2 (fun g2 => ?_) (fun g2 => stay)⟩) (fun g1 => ⟨_, rfl, iteF stay⟩)⟩
              have hxt4 := IsTh.kp (Kp.of s4) hxt
              have hvl4 := th_but hp b4 (IsTh.kp (Kp.of s1) hvl) (PfT.pl M hl)
              refine ⟨_, rfl, _, rfl, p, ws', 0 + (i : Int), x, rfl, rfl, SqL.of hp4, atI_nat' hx, _, rfl, _, rfl, x, vl, z', kt[i], l, rfl, hxt4, hm, hvl4, hl, fun v' t' H5 s5 hv5 pf5 sz5 => ?_⟩
              have hp5 := s5 _ _ hp4
              refine ⟨_, rfl, _, rfl, p, ws', 0 + (i : Int), i, rfl, rfl, hp5, ix_of (by omega), ?_⟩
              have bu : But p H5 (upd H5 p (.lst (ws'.set i v'))) := But.upd
              refine ⟨none, us.set i t', ws'.set i v', rfl, (b4.trans (But.of s5)).trans bu, upd_same, ?_, by rw [List.length_set]; exact hul, ?_, ?_, ?_⟩
              · refine ths_set _ i (ths_but hp5 bu (IsThs.kp (Kp.of s5) hws4) (plTs_all fun u hu => PfT.pl _ (hupf u hu))) (th_but hp5 bu hv5 (PfT.pl _ pf5))
              · intro u hu
                rcases List.mem_or_eq_of_mem_set hu with y | y
                · exact hupf u y
                · rw [y]; exact pf5
              · intro j hj
                rw [List.getElem?_set_ne (by omega)]
                exact hsame j (by omega)
              · intro j u k a b
                by_cases hji : j = i
                · subst hji
                  rw [List.getElem?_set_self (by omega)] at a
                  cases a
                  rw [hki] at b
                  cases b
                  exact sz5
                · rw [List.getElem?_set_ne (Ne.symm hji)] at a
                  exact hbd j u k a b
            · rintro σ5 H5 ⟨_, us5, ws5, rfl, q1, q2, q3, q4, q5, q6, q7⟩
              exact ⟨_, rfl, _, rfl, _, _, rfl, rfl, _, _, _, us5, ws5, rfl, q1, q2, q3, q4, q5, q6, q7⟩
          · rintro σ' H' ⟨z', o4, o5, us, ws', rfl, b2, hp2, hws2, hul, hupf, hsame, hbd⟩
            have hv2 := th_but hp b2 (IsTh.kp (Kp.of s1) hv) (PfT.pl _ pD)
            have sm : Same H H' := fun c o e => b2 c o (s1 _ _ e) (ne_of_none e hp0)
            refine ⟨_, rfl, _, rfl, v, p, _, us, ws', rfl, hv2, by rw [List.length_cons, List.length_append, List.length_map]; omega, hp2, hws2, by omega, fun r H3 s3 hr3 => ?_⟩
            rw [lead_nd nk] at hr3
            refine k _ _ _ (sm.trans s3) hr3 ?_ ?_
            · rw [Nat.add_right_comm]
              exact ⟨w0, hd, us, rfl, h1, h2, fun z => ⟨(h3 z).1, by rw [hul]; exact (h3 z).2⟩, fun z => (by
                obtain ⟨i, e1, e2⟩ := h4 z
                refine ⟨i, e1, ?_⟩
                rw [e2] at hul
                exact List.eq_nil_of_length_eq_zero hul), by omega, hupf⟩
            · have := szs_bd us kt hul hbd
              unfold bdS
              rw [sz_nd, sz_nd, cnt_nd nk, Nat.add_mul]
              omega
end
end K17

set_option Elab.async false
set_option linter.all false
set_option maxRecDepth 100000
set_option maxHeartbeats 4000000
namespace K17
open PySem L2
def spTold (N : Nat) : Sp := fun vs H Q _ => ∃ (v1 v2 : V) (p f : Th) (m : Nat), vs = [v1, .int (m : Nat), v2] ∧ Fm H v1 N p ∧ Fm H v2 N f ∧ m < 64 ∧ (∀ i, i ∈ hs p ↔ i < m) ∧ ∀ H', Same H H' → Q (.bl true) H'
structure HC (K : PySem.W.Frag) (mg : Str → Option Value) (fG fC fL fS : Addr) (dG dC dL dS : FuncData) : Prop where
  G : Fun K "got" "got" sGot fG dG
  bG : Binds K dG ["pattern", "other"] []
  mG : mg "got" = some (.ref fG)
  C : Fun K "_law_clash" "_law_clash" sClash fC dC
  bC : Binds K dC ["_law_pattern", "_law_other", "_law_found"] []
  mC : mg "_law_clash" = some (.ref fC)
  L : Fun K "_law_fill" "_law_fill" sFill fL dL
  bL : Binds K dL ["_law_b", "_law_fillings"] []
  mL : mg "_law_fill" = some (.ref fL)
  S : Fun K "_law_same" "_law_same" sSame fS dS
  bS : Binds K dS ["_law_found", "_law_due"] []
  mS : mg "_law_same" = some (.ref fS)
section
variable {P : Program} {w : World} {K : PySem.W.Frag} {mg : Str → Option Value} {base : Heap}
theorem scTold : FnScope ["_law_pattern", "_law_many", "_law_other", "_law_found"] ["_law_pattern", "_law_many", "_law_other"] (defScope sTold) := ⟨rfl, rfl, rfl, by decide +kernel, rfl, by decide +kernel, by decide +kernel⟩
theorem ok_told {f fG fC fL fS fP fW fPp fH fSt fF fA : Addr} {fd dG dC dL dS dP dW dPp dH dSt dF dA : FuncData} (F : Fun K "_law_told" "_law_told" sTold f fd) (Y : HC K mg fG fC fL fS dG dC dL dS) (U : HW K mg fP fW dP dW) (TA : TxtA mg) (KS : KS K)
    (HT : HT K mg fPp fH fSt dPp dH dSt) (HG : HG K mg fF fA dF dA) (N : Nat) (hN : N ≤ 50) : FnOk P w K mg base CX0 (N + 6) f fd ["_law_pattern", "_law_many", "_law_other"] (spTold N) := by
  have GG : FnOk P w K mg base CX0 4 fG dG ["pattern", "other"] (spGot N) := ok_got Y.G HT HG N
  have GC : FnOk P w K mg base CX0 (N + 2) fC dC ["_law_pattern", "_law_other", "_law_found"] (spClash N N) := ok_clash Y.C Y.bC Y.mC U TA N hN N
  have GL : FnOk P w K mg base CX0 (N + 2) fL dL ["_law_b", "_law_fillings"] (spFill N) := ok_fill Y.L Y.bL Y.mL U N
  have GS : FnOk P w K mg base CX0 (N + 1 + 1) fS dS ["_law_found", "_law_due"] (spSame (N + 1)) := ok_same Y.S Y.bS Y.mS U.T TA U.KI KS (N + 1)
  refine F.ok scTold (fun vs H Q E h => ?_) (fun cdv A outer s H vs Q E hr h => ?_)
  · obtain ⟨v1, v2, p, f, m, rfl, _⟩ := h
    rfl
  · obtain ⟨v1, v2, p, f, m, rfl, f1, f2, hm, hh, k⟩ := h
    have hsz : sizeLine = 16777216 := sizeLine_eq
    have hr4 : Room 4 _ := hr.mono (by omega)
    have hrN : Room (N + 2) _ := hr.mono (by omega)
    refine' ⟨?tt, ?body, ?fin⟩
    case body =>
      refine' pss_cons ?s1 (pss_cons ?s2 (pss_cons ?s3 (pss_one ?s4)))
      case s1 => exact ps_set (i := 3) scTold.nd rfl (Or.inl rfl) (pe_call GG hr4 (by rfl) Y.mG Y.G.kp Y.bG .nil pass0 (pa_n (pv 0) (pa_n (pv 2) pa_nil)))
      case s2 =>
        refine' ps_if ?c (pss_one ?b) pss_nil
        case c => exact pt_cmp (pc_isN (pv 3)) (nomark _)
        case b => exact ps_ret (pe_call GC hrN (by rfl) Y.mC Y.C.kp Y.bC .nil pass0 (pa_n (pv 0) (pa_n (pv 2) (pa_cons pe_dnewK pa_nil))))
      case s3 =>
        refine' ps_if ?c (pss_one ?b) pss_nil
        case c => exact (pw_or (pt_not (pt_val (pe_callB call_isinst (by rfl) U.T.isi (by decide +kernel) (pa_n (pv 3) (pa_n (pe_bltn (v := .ty "tuple") (by rfl) U.T.tup (by decide +kernel) rfl) pa_nil))))) (pw_or1 (pt_cmpR op_ne (pe_callB call_len_seq (by rfl) U.T.len PySem.boot_len (pa_n (pv 3) pa_nil)) (pv 1) (nomark _)))).pt
        case b => exact ps_ret pe_bl
      case s4 =>
        refine' ps_ret ?r
        case r =>
          refine' pe_and ?x (pe_one ?y)
          case x =>
            refine' pe_callB (call_all_of rfl) (by rfl) TA.all (by decide +kernel) ?a
            case a => exact pa_cons (pe_comp (N' := ["_law_one"]) (src := [none]) rfl (compScope_of (defScope sTold) rfl ["_law_pattern", "_law_many", "_law_other", "_law_found"] rfl (by decide +kernel)) (pi_tup (pv 3))
              (fun cl C ex s0 H0 => ⟨pg_name (i := 0) (nd1 _) rfl (Or.inl rfl), pts_nil, pe_callB (id := "isinstance") (call_isinstK (K := K) rfl) (by rfl) U.T.isi (by decide +kernel) (pa_n (pv 0) (pa_n (pe_bltn (v := .ty "tuple") (by rfl) U.T.tup (by decide +kernel) rfl) pa_nil))⟩)) pa_nil
          case y => exact pe_call GS hrN (by rfl) Y.mS Y.S.kp Y.bS .nil pass0 (pa_c (pe_call GL hrN (by rfl) Y.mL Y.L.kp Y.bL .nil pass0 (pa_n (pv 0) (pa_n (pv 3) pa_nil))) (pa_n (pv 2) pa_nil))
    case fin =>
      refine ⟨_, rfl, _, rfl, v1, v2, p, f, m, rfl, f1, f2, hm, hh, fun hno H1 s1 => ?_, fun σ hσ hso a ws H1 s1 ha hws => ?_⟩
      · refine ⟨_, rfl, _, rfl, ite2 (fun g => ?_) (fun g => absurd (by decide) g)⟩
        refine ⟨_, rfl, _, rfl, fun da hda => ?_⟩
        have sd := same_upd (o := .dK []) hda
        refine ⟨v1, v2, da, p, f, [], [], fun _ => .tup [], rfl, IsTh.kp (Kp.of (s1.trans sd)) f1.is, f1.pf, IsTh.kp (Kp.of (s1.trans sd)) f2.is, f2.pf, upd_same, ⟨rfl, List.nodup_nil, fun i hi => (by cases hi), fun i hi => (by cases hi)⟩, fun i hi => Nat.lt_trans ((hh i).mp hi) (by omega), fun b kvs' ks' g' H2 b2 hd2 dc2 hw => ?_⟩
        have s2 : Same H H2 := fun c o e => b2 c o (sd _ _ (s1 _ _ e)) (ne_of_none (s1 _ _ e) hda)
        cases b with
        | true => exact k _ s2
        | false =>
          obtain ⟨_, q2⟩ := hw rfl
          refine absurd (q2 (fun i => if i ∈ ks' then g' i else .tup []) (fun i hi => if_pos hi) (p, f) (List.mem_singleton.mpr rfl)) (hno _ fun i => ?_)
          show L2.isTup (if i ∈ ks' then g' i else .tup []) = true
          split
          · next z => exact (dc2.at1 i z).1.isTup
          · rfl
      · refine ⟨_, rfl, _, rfl, ite2 (fun g => absurd g (by simp)) (fun g => ?_)⟩
        have hwl := IsThs.len _ hws
        rw [List.length_map, List.length_range] at hwl
        have hfl : fl (sg ((List.range m).map σ)) p = f := by
          rw [← hso]
          refine fl_congr N f1.pf fun i hi => ?_
          have hi' := (hh i).mp hi
          unfold sg
          simp [List.getD, List.getElem?_range hi']
        have ht : IsTh H1 (.ref a) (.tup ((List.range m).map σ)) := .tup ha hws
        refine ⟨_, rfl, _, _, _, _, rfl, th_ty ht, U.KI.tup ht, _, rfl, iteF ?_⟩
        refine ⟨_, rfl, a, ws, rfl, .inr (SqT.of ha), _, rfl, rfl, _, rfl, ite2 (fun g => absurd g (by rw [hwl]; simp)) (fun g => ?_)⟩
        refine ⟨_, rfl, a, rfl, ⟨_, SqT.of ha⟩, comp_tup (K := K) (a := a) (xs := ws) (fun i ys σc H' => ∃ (o : Option V) (bs : List Bool), σc = [o] ∧ ys = bs.map V.bl ∧ bs.length = i ∧ (∀ x ∈ bs, x = true) ∧ H' = H1) ⟨none, [], rfl, rfl, rfl, fun x hx => (by cases hx), rfl⟩ (fun i ys σc H' ⟨_, _, _, _, _, _, e⟩ => by rw [e]; exact SqT.of ha) ?_ ?_⟩
        · rintro i x ys σc H' hx hi ⟨o, bs, rfl, rfl, hbl, hall, rfl⟩
          obtain ⟨t, htt, hxt⟩ := ths_get _ hws hx
          have htu : L2.isTup t = true := by
            obtain ⟨j, _, rfl⟩ := List.mem_map.mp (List.mem_of_getElem? htt)
            exact hσ j
          refine ⟨by rw [List.length_map]; omega, ?_⟩
          refine ⟨_, rfl, _, _, _, _, rfl, th_ty hxt, U.KI.tup hxt, nx hi ⟨_, bs ++ [true], rfl, ?_, by rw [List.length_append, hbl]; rfl, fun y hy => ?_, rfl⟩⟩
          · rw [htu, List.map_append]; rfl
          · rcases List.mem_append.mp hy with z | z
            · exact hall y z
            · exact List.mem_singleton.mp z
        · rintro ys σc H' ⟨o, bs, rfl, rfl, hbl, hall, rfl⟩ q hq
          have sq := same_upd (o := .lst (bs.map V.bl)) hq
          refine ⟨q, bs, rfl, SqL.of upd_same, _, rfl, ?_⟩
          rw [show bs.all id = true from List.all_eq_true.mpr fun x hx => hall x hx]
          refine iteT ?_
          have sA := s1.trans sq
          refine ⟨_, rfl, _, rfl, v1, a, p, ws, (List.range m).map σ, rfl, IsTh.kp (Kp.of sA) f1.is, f1.pf, .inl (sq _ _ ha), IsThs.kp (Kp.of sq) hws, fun i hi => by rw [List.length_map, List.length_range]; exact (hh i).mp hi, fun v' H2 s2 hv' => ?_⟩
          rw [hfl] at hv'
          refine ⟨_, rfl, v', v2, f, rfl, hv', IsTh.kp (Kp.of (sA.trans s2)) f2.is, PfT.pl N f2.pf, Nat.lt_succ_of_le (PfT.dp N f2.pf), Nat.le_trans f2.sz (by decide), fun H3 s3 => k _ ((sA.trans s2).trans s3)⟩
end
end K17

set_option Elab.async false
set_option linter.all false
set_option maxRecDepth 100000
set_option maxHeartbeats 4000000
namespace K17
open PySem L2
/-! the world: names, room, how many holes, how far owns may lead astray, a bag of forms -/
def worldKV (nm : Addr) (r h s : Int) (bg : Addr) : List (Key × V) := [(Sum.inr "names", .ref nm), (Sum.inr "room", .int r), (Sum.inr "holes", .int h), (Sum.inr "astray", .int s), (Sum.inr "bag", .ref bg)]
section
variable {H : Hp} {wd nm bg : Addr} {r h s q : Int}
theorem wget_names (e : H wd = some (.dK (worldKV nm r h s bg))) : DGet H wd (.str "names") (some (.ref nm)) := by
  have z := DGet.k (k := Sum.inr "names") e
  rw [show valV (worldKV nm r h s bg) (Sum.inr "names") = some (.ref nm) by with_unfolding_all rfl] at z
  exact z
theorem wget_room (e : H wd = some (.dK (worldKV nm r h s bg))) : DGet H wd (.str "room") (some (.int r)) := by
  have z := DGet.k (k := Sum.inr "room") e
  rw [show valV (worldKV nm r h s bg) (Sum.inr "room") = some (.int r) by with_unfolding_all rfl] at z
  exact z
theorem wget_holes (e : H wd = some (.dK (worldKV nm r h s bg))) : DGet H wd (.str "holes") (some (.int h)) := by
  have z := DGet.k (k := Sum.inr "holes") e
  rw [show valV (worldKV nm r h s bg) (Sum.inr "holes") = some (.int h) by with_unfolding_all rfl] at z
  exact z
theorem wget_astray (e : H wd = some (.dK (worldKV nm r h s bg))) : DGet H wd (.str "astray") (some (.int s)) := by
  have z := DGet.k (k := Sum.inr "astray") e
  rw [show valV (worldKV nm r h s bg) (Sum.inr "astray") = some (.int s) by with_unfolding_all rfl] at z
  exact z
theorem wget_bag (e : H wd = some (.dK (worldKV nm r h s bg))) : DGet H wd (.str "bag") (some (.ref bg)) := by
  have z := DGet.k (k := Sum.inr "bag") e
  rw [show valV (worldKV nm r h s bg) (Sum.inr "bag") = some (.ref bg) by with_unfolding_all rfl] at z
  exact z
theorem wset_room (e : H wd = some (.dK (worldKV nm r h s bg))) : DPut H wd (.str "room") (.int q) (upd H wd (.dK (worldKV nm q h s bg))) := by
  have z := DPut.k (k := Sum.inr "room") (v := .int q) e (by show 5 < sizeLine; decide)
  rw [show putK (worldKV nm r h s bg) (Sum.inr "room") (.int q) = worldKV nm q h s bg by with_unfolding_all rfl] at z
  exact z
theorem wset_bag {b2 : Addr} (e : H wd = some (.dK (worldKV nm r h s bg))) : DPut H wd (.str "bag") (.ref b2) (upd H wd (.dK (worldKV nm r h s b2))) := by
  have z := DPut.k (k := Sum.inr "bag") (v := .ref b2) e (by show 5 < sizeLine; decide)
  rw [show putK (worldKV nm r h s bg) (Sum.inr "bag") (.ref b2) = worldKV nm r h s b2 by with_unfolding_all rfl] at z
  exact z
end
theorem world_ne {H : Hp} {d wd l nm bg : Addr} {ns : List Int} {n : Nat} {r h s : Int} (F : Feed H d l ns n) (W : H wd = some (.dK (worldKV nm r h s bg))) : wd ≠ d := by
  obtain ⟨⟨z, hd⟩, _, _⟩ := F
  refine ne_of W hd (fun q => ?_)
  injection q with q
  have h1 := congrArg List.length q
  cases h1
def spWorld : Sp := fun vs H Q _ => ∃ (nm : Addr) (r h s : Int), vs = [.ref nm, .int r, .int h, .int s] ∧ ∀ (wd bg : Addr) H', Same H H' → H wd = none → H bg = none → H' wd = some (.dK (worldKV nm r h s bg)) → H' bg = some (.lst []) → Q (.ref wd) H'
/-- the names of a world -/
structure Nms (H : Hp) (nm : Addr) (T : List Str) : Prop where
  a : H nm = some (.lst (T.map V.str))
  l1 : 1 ≤ T.length
  l2 : T.length ≤ 40
  nm : ∀ t ∈ T, Nm t
def LeafT (h : Int) (t : Th) : Prop := PfT 1 t ∧ cnt t = 1 ∧ Th.sz t ≤ 3 ∧ ∀ i ∈ hs t, ((i : Nat) : Int) < h
def spLeaf : Sp := fun vs H Q _ => ∃ (d l wd nm bg : Addr) (ns : List Int) (n : Nat) (r h s lt : Int) (T : List Str), vs = [.ref d, .ref wd, .int lt] ∧ Feed H d l ns n ∧ n ≤ 800000000000 ∧ H wd = some (.dK (worldKV nm r h s bg)) ∧ Nms H nm T ∧ h ≤ 1000 ∧ lt + s ≤ 1000 ∧
  ∀ (v : V) (t : Th) n' H', IsTh H' v t → LeafT h t → n' ≤ n + 5 → Feed H' d l ns n' → But d H H' → Q v H'
theorem leaf1 {w : Str} {h : Int} (h1 : w ≠ "let") (h2 : w ≠ "hole") : LeafT h (nd w [] []) := by
  refine ⟨⟨w, [], [], rfl, Nat.zero_le _, fun v hv => (by cases hv), fun z => absurd z h1, fun z => absurd z h2, Nat.zero_le _, fun k hk => (by cases hk)⟩, ?_, ?_, fun i hi => ?_⟩
  · rw [cnt_nd (fun k hk => by cases hk)]; simp [cnts]
  · rw [sz_nd]; simp [szs]
  · obtain ⟨k, hk, _⟩ := (hs_nd h2).mp hi
    cases hk
theorem leaf2 {w : Str} {v : V} {h : Int} (hv : plT (.at v) = true) (h1 : w ≠ "let") (h2 : w ≠ "hole") : LeafT h (nd w [v] []) := by
  refine ⟨⟨w, [v], [], rfl, Nat.le_refl _, fun u hu => (by rw [List.mem_singleton] at hu; rw [hu]; exact hv), fun z => absurd z h1, fun z => absurd z h2, Nat.zero_le _, fun k hk => (by cases hk)⟩, ?_, ?_, fun i hi => ?_⟩
  · rw [cnt_nd (fun k hk => by cases hk)]; simp [cnts]
  · rw [sz_nd]; simp [szs, Th.sz]
  · obtain ⟨k, hk, _⟩ := (hs_nd h2).mp hi
    cases hk
theorem leafh {i : Nat} {h : Int} (hi : ((i : Nat) : Int) < h) : LeafT h (hol i) := by
  refine ⟨hol_pf i, ?_, ?_, fun j hj => ?_⟩
  · unfold hol; rw [cnt_nd (fun k hk => by cases hk)]; simp [cnts]
  · unfold hol; rw [sz_nd]; simp [szs, Th.sz]
  · unfold hol at hj
    rw [hs_hole, List.mem_singleton] at hj
    rw [hj]
    exact hi
section
variable {P : Program} {w : World} {K : PySem.W.Frag} {mg : Str → Option Value} {base : Heap}
theorem scWorld : FnScope ["_law_names_here", "_law_room", "_law_holes", "_law_astray"] ["_law_names_here", "_law_room", "_law_holes", "_law_astray"] (defScope sWorld) := ⟨rfl, rfl, rfl, by decide +kernel, rfl, by decide +kernel, by decide +kernel⟩
theorem ok_world {f : Addr} {fd : FuncData} (F : Fun K "_law_world" "_law_world" sWorld f fd) : FnOk P w K mg base CX0 1 f fd ["_law_names_here", "_law_room", "_law_holes", "_law_astray"] spWorld := by
  refine F.ok scWorld (fun vs H Q E h => ?_) (fun cdv A outer s H vs Q E hr h => ?_)
  · obtain ⟨nm, r, h, s, rfl, _⟩ := h
    rfl
  · obtain ⟨nm, r, h, s, rfl, k⟩ := h
    refine ⟨_, pss_one (ps_ret (pe_disp (pps_cons pe_str (pv 0) (pps_cons pe_str (pv 1) (pps_cons pe_str (pv 2) (pps_cons pe_str (pv 3) (pps_cons pe_str (pe_lst pa_nil) pps_nil))))) rfl rfl (by intro z; cases z) (by decide))), ?_⟩
    intro wd hwd
    have sw := same_upd (o := .dK []) hwd
    refine ⟨_, rfl, _, rfl, _, rfl, _, rfl, Nat.zero_le _, fun bg hbg => ?_⟩
    have hbn : bg ≠ wd := fun z => by rw [z, upd_same] at hbg; cases hbg
    have sb := same_upd (o := .lst []) hbg
    refine ⟨sb _ _ upd_same, worldKV nm r h s bg, rfl, by show 5 ≤ 15; decide, ?_⟩
    have em : mergeK [] (worldKV nm r h s bg) = worldKV nm r h s bg := by with_unfolding_all rfl
    rw [em]
    refine k wd bg _ (fun b ob e => ?_) hwd (same_none sw hbg) upd_same ?_
    · rw [upd_ne (ne_of_none e hwd)]
      exact sb _ _ (sw _ _ e)
    · rw [upd_ne hbn]
      exact upd_same
theorem scLeaf : FnScope ["_law_feed_here", "_law_world_here", "_law_lets", "_law_way"] ["_law_feed_here", "_law_world_here", "_law_lets"] (defScope sLeaf) := ⟨rfl, rfl, rfl, by decide +kernel, rfl, by decide +kernel, by decide +kernel⟩
theorem ok_leaf {f fV fD fS : Addr} {fd dV dD dS : FuncData} (F : Fun K "_law_leaf" "_law_leaf" sLeaf f fd) (U : Helpers K mg fD fS dD dS) (FV : Fun K "_law_value" "_law_value" sLawValue fV dV) (bV : Binds K dV ["_law_feed_here"] []) (mV : mg "_law_value" = some (.ref fV)) :
    FnOk P w K mg base CX0 3 f fd ["_law_feed_here", "_law_world_here", "_law_lets"] spLeaf := by
  have GD : FnOk P w K mg base CX0 1 fD dD ["_law_feed_here", "_law_many"] spDraw := ok_draw U.D U.T
  have GV : FnOk P w K mg base CX0 2 fV dV ["_law_feed_here"] spValue := ok_value FV U
  refine F.ok scLeaf (fun vs H Q E h => ?_) (fun cdv A outer s H vs Q E hr h => ?_)
  · obtain ⟨d, l, wd, nm, bg, ns, n, r, h, s, lt, T, rfl, _⟩ := h
    rfl
  · obtain ⟨d, l, wd, nm, bg, ns, n, r, h, sa, lt, T, rfl, F0, hn, W0, N0, hh, hls, k⟩ := h
    have hsz : sizeLine = 16777216 := sizeLine_eq
    have hu : (_ : Around).units + 1 < cLine := Nat.lt_of_le_of_lt (Nat.add_le_add_left (by decide) _) hr.units
    have hr1 : Room 1 _ := hr.mono (by decide)
    have hr2 : Room 2 _ := hr.mono (by decide)
    refine' ⟨?tt, ?body, ?fin⟩
    case body =>
      refine' pss_cons ?s1 ?r1
      case s1 => exact ps_set (i := 3) scLeaf.nd rfl (Or.inl rfl) (pe_call GD hr1 (by rfl) U.mD U.D.kp U.bD .nil pass0 (pa_n (pv 0) (pa_k pe_int pa_nil)))
      case r1 =>
        refine' pss_cut ?s2 ?r2
        case s2 =>
          refine' ps_if ?c (pss_one ?b) pss_nil
          case c => exact (pw_and (pt_cmpR op_lt (pv 3) pe_int (nomark _)) (pw_and1 (pt_cmpR op_gt (pe_dget hu (pv 1) pe_str (fun _ _ => rfl)) pe_int (nomark _)))).pt
          case b => exact ps_ret (pe_tup (pa_k pe_str (pa_c (pe_call GD hr1 (by rfl) U.mD U.D.kp U.bD .nil pass0 (pa_n (pv 0) (pa_cons (pe_dget hu (pv 1) pe_str (fun _ _ => rfl)) pa_nil))) pa_nil)))
        case r2 =>
          refine' pss_cut ?s3 ?r3
          case s3 =>
            refine' ps_if ?c (pss_one ?b) pss_nil
            case c => exact (pw_and (pt_cmpR op_in_seq (pv 3) (pe_tup (pa_k pe_int (pa_k pe_int pa_nil))) (by with_unfolding_all rfl)) (pw_and1 (pt_cmpR op_gt (pe_op op_add (pv 2) (pe_dget hu (pv 1) pe_str (fun _ _ => rfl))) pe_int (nomark _)))).pt
            case b => exact ps_ret (pe_tup (pa_k pe_str (pa_c (pe_call GD hr1 (by rfl) U.mD U.D.kp U.bD .nil pass0 (pa_n (pv 0) (pa_cons (pe_op op_add (pv 2) (pe_dget hu (pv 1) pe_str (fun _ _ => rfl))) pa_nil))) pa_nil)))
          case r3 =>
            refine' pss_cons ?s4 ?r4
            case s4 => exact ps_if (pt_cmpR op_eq (pv 3) pe_int (nomark _)) (pss_one (ps_ret (pe_tup (pa_k pe_str pa_nil)))) pss_nil
            case r4 =>
              refine' pss_cons ?s5 ?r5
              case s5 => exact ps_if (pt_cmpR op_eq (pv 3) pe_int (nomark _)) (pss_one (ps_ret (pe_tup (pa_k pe_str (pa_c (pe_call GV hr2 (by rfl) mV FV.kp bV .nil pass0 (pa_n (pv 0) pa_nil)) pa_nil))))) pss_nil
              case r5 =>
                refine' pss_one ?s6
                case s6 =>
                  refine' ps_ret ?r
                  case r =>
                    refine' pe_tup ?a
                    case a =>
                      refine' pa_k pe_str (pa_cons ?x pa_nil)
                      case x => exact pe_ix ix_list (pe_dget hu (pv 1) pe_str (fun _ _ => rfl)) (pe_call GD hr1 (by rfl) U.mD U.D.kp U.bD .nil pass0 (pa_n (pv 0) (pa_c (pe_callB call_len_seq (by rfl) U.T.len PySem.boot_len (pa_cons (pe_dget hu (pv 1) pe_str (fun _ _ => rfl)) pa_nil)) pa_nil))) (fun _ _ => rfl)
    case fin =>
      have hne := world_ne F0 W0
      refine ⟨_, rfl, d, l, ns, n, _, rfl, F0, by omega, by decide, by decide, fun way n1 H1 w0 w1 hn1 F1 b1 => ?_⟩
      have W1 := b1 wd _ W0 hne
      have N1 := F0.lst b1 N0.a
      refine ⟨fun σ' H' => σ' = [some (.ref d), some (.ref wd), some (.int lt), some (.int way)] ∧ H' = H1, ?_, ?_⟩
      · refine ⟨_, rfl, _, _, rfl, rfl, _, rfl, ite2 (fun g => ?_) (fun g => iteF ⟨rfl, rfl⟩)⟩
        refine ⟨_, rfl, wd, .int h, rfl, wget_holes W1, _, _, rfl, rfl, _, rfl, ite2 (fun g2 => ?_) (fun g2 => ⟨rfl, rfl⟩)⟩
        have hpos : 0 < h := by simpa using g2
        refine ⟨_, rfl, _, rfl, wd, .int h, rfl, wget_holes W1, d, l, ns, n1, h, rfl, F1, by omega, hpos, by omega, fun i n2 H2 i0 i1 hn2 F2 b2 => ⟨(by show 2 ≤ sizeLine; decide), fun p hp => ?_⟩⟩
        obtain ⟨j, rfl⟩ : ∃ j : Nat, i = (j : Nat) := ⟨i.toNat, by omega⟩
        exact k (.ref p) (hol j) n2 _ (hol_is upd_same) (leafh i1) (by omega) (F2.same (same_upd hp)) ((b1.trans b2).trans (But.of (same_upd hp)))
      rintro σ2 H2 ⟨rfl, rfl⟩
      refine ⟨fun σ' H' => σ' = [some (.ref d), some (.ref wd), some (.int lt), some (.int way)] ∧ Same H2 H', ?_, ?_⟩
      · refine ⟨_, rfl, (by show 2 ≤ sizeLine; decide), fun e he => ?_⟩
        have se := same_upd (o := .tup [.int 2, .int 3]) he
        have W2 := se _ _ W1
        refine ⟨e, [.int 2, .int 3], rfl, .inr (SqT.of upd_same), rfl, rfl, _, rfl, ite2 (fun g => ?_) (fun g => iteF ⟨rfl, se⟩)⟩
        refine ⟨_, rfl, _, rfl, wd, .int sa, rfl, wget_astray W2, _, _, rfl, rfl, _, _, rfl, rfl, _, rfl, ite2 (fun g2 => ?_) (fun g2 => ⟨rfl, se⟩)⟩
        have hpos : 0 < lt + sa := by simpa using g2
        refine ⟨_, rfl, _, rfl, _, rfl, wd, .int sa, rfl, wget_astray W2, _, _, rfl, rfl, d, l, ns, n1, lt + sa, rfl, F1.same se, by omega, hpos, by omega, fun i n3 H3 i0 i1 hn3 F3 b3 => ⟨(by show 2 ≤ sizeLine; decide), fun p hp => ?_⟩⟩
        exact k (.ref p) (nd "own" [.int i] []) n3 _ (.tup upd_same (.cons (.at (by decide +kernel)) (.cons (.at rfl) .nil))) (leaf2 rfl (by decide +kernel) (by decide +kernel)) (by omega) (F3.same (same_upd hp)) (((b1.trans (But.of se)).trans b3).trans (But.of (same_upd hp)))
      rintro σ3 H3 ⟨rfl, s3⟩
      have W3 := s3 _ _ W1
      have N3 := s3 _ _ N1
      have F3 := F1.same s3
      have b3 := b1.trans (But.of (d := d) s3)
      refine ⟨_, rfl, rfl, _, rfl, ite2 (fun _ => ?_) (fun _ => ?_)⟩
      · refine ⟨(by show 1 ≤ sizeLine; decide), fun p hp => ?_⟩
        exact k (.ref p) (nd "take" [] []) n1 _ (.tup upd_same (.cons (.at (by decide +kernel)) .nil)) (leaf1 (by decide +kernel) (by decide +kernel)) (by omega) (F3.same (same_upd hp)) (b3.trans (But.of (same_upd hp)))
      · refine ⟨_, rfl, rfl, _, rfl, ite2 (fun _ => ?_) (fun _ => ?_)⟩
        · refine ⟨_, rfl, d, l, ns, n1, rfl, F3, by omega, fun i n4 H4 i0 i1 hn4 F4 b4 => ⟨(by show 2 ≤ sizeLine; decide), fun p hp => ?_⟩⟩
          exact k (.ref p) (nd "num" [.int i] []) n4 _ (.tup upd_same (.cons (.at (by decide +kernel)) (.cons (.at rfl) .nil))) (leaf2 rfl (by decide +kernel) (by decide +kernel)) (by omega) (F4.same (same_upd hp)) ((b3.trans b4).trans (But.of (same_upd hp)))
        · have l1 := N0.l1
          have l2 := N0.l2
          have hl : ((T.map V.str).length : Int) = (T.length : Int) := by rw [List.length_map]
          refine ⟨_, rfl, wd, .ref nm, rfl, wget_names W3, _, rfl, _, rfl, wd, .ref nm, rfl, wget_names W3, nm, T.map V.str, rfl, .inl (SqL.of N3), d, l, ns, n1, _, rfl, F3, by omega, by show (0 : Int) < ((T.map V.str).length : Int); omega, by show ((T.map V.str).length : Int) < 18446744073709551616; omega, fun i n4 H4 i0 i1 hn4 F4 b4 => ?_⟩
          obtain ⟨v4, hv4, hat4⟩ := at_in (xs := T.map V.str) (i := i) i0 i1
          obtain ⟨t4, ht4, rfl⟩ := List.mem_map.mp hv4
          have hN := N0.nm t4 ht4
          refine ⟨nm, T.map V.str, i, .str t4, rfl, rfl, SqL.of (F3.lst b4 N3), hat4, (by show 2 ≤ sizeLine; decide), fun p hp => ?_⟩
          exact k (.ref p) (nd "name" [.str t4] []) n4 _ (.tup upd_same (.cons (.at (by decide +kernel)) (.cons (.at (decide_eq_true (Nat.le_trans hN.1.2 (by decide)))) .nil))) (leaf2 rfl (by decide +kernel) (by decide +kernel)) (by omega) (F4.same (same_upd hp)) ((b3.trans b4).trans (But.of (same_upd hp)))
end
end K17

set_option Elab.async false
set_option linter.all false
set_option maxRecDepth 100000
set_option maxHeartbeats 4000000
namespace K17
open PySem L2
/-! what the law needs to know of forms -/
theorem szs_ats (hd : List V) : szs (hd.map Th.at) = hd.length := by
  induction hd with
  | nil => simp [szs]
  | cons v hd ih => rw [List.map_cons, szs, ih, Th.sz, List.length_cons]; omega
theorem szs_cnts {n : Nat} (ih : ∀ {t : Th}, PfT n t → Th.sz t ≤ 3 * cnt t) : ∀ {ks : List Th}, (∀ k ∈ ks, PfT n k) → szs ks ≤ 3 * cnts ks := by
  intro ks
  induction ks with
  | nil => intro _; simp [szs]
  | cons k ks h2 =>
    intro h
    have a := ih (h k (List.mem_cons_self ..))
    have b := h2 fun x hx => h x (List.mem_cons_of_mem _ hx)
    rw [szs, cnts]
    omega
theorem sz_cnt : ∀ (n : Nat) {t : Th}, PfT n t → Th.sz t ≤ 3 * cnt t := by
  intro n
  induction n with
  | zero => intro t h; exact h.elim
  | succ n ih =>
    intro t h
    obtain ⟨w, hd, ks, rfl, h1, h2, h3, h4, h5, h6⟩ := h
    have a := szs_cnts ih h6
    rw [sz_nd, szs_ats, cnt_nd fun k hk => (h6 k hk).isTup]
    omega
theorem cnts_fl {σ : Nat → Th} {n : Nat} (ih : ∀ {t : Th}, PfT n t → (∀ i ∈ hs t, cnt (σ i) = 1) → cnt (fl σ t) = cnt t) : ∀ {ks : List Th}, (∀ k ∈ ks, PfT n k) → (∀ k ∈ ks, ∀ i ∈ hs k, cnt (σ i) = 1) → cnts (ks.map (fl σ)) = cnts ks := by
  intro ks
  induction ks with
  | nil => intro _ _; rfl
  | cons k ks h2 =>
    intro h e
    rw [List.map_cons, cnts, cnts, ih (h k (List.mem_cons_self ..)) (e k (List.mem_cons_self ..)), h2 (fun x hx => h x (List.mem_cons_of_mem _ hx)) fun x hx => e x (List.mem_cons_of_mem _ hx)]
/-- fillings of one node each leave the number of nodes -/
theorem cnt_fl {σ : Nat → Th} (hσ : Tps σ) : ∀ (n : Nat) {t : Th}, PfT n t → (∀ i ∈ hs t, cnt (σ i) = 1) → cnt (fl σ t) = cnt t := by
  intro n
  induction n with
  | zero => intro t h; exact h.elim
  | succ n ih =>
    intro t h e
    obtain ⟨w, hd, ks, rfl, h1, h2, h3, h4, h5, h6⟩ := h
    by_cases hw : w = "hole"
    · subst hw
      obtain ⟨i, rfl, rfl⟩ := h4 rfl
      rw [fl_hole, e i (by rw [hs_hole]; exact List.mem_singleton.mpr rfl), cnt_nd (fun k hk => by cases hk)]
      simp [cnts]
    · rw [fl_nd hw, cnt_nd fun k hk => (h6 k hk).isTup, cnt_nd fun k hk => ?_, cnts_fl ih h6 fun k hk i hi => e i ((hs_nd hw).mpr ⟨k, hk, hi⟩)]
      obtain ⟨y, hy, rfl⟩ := List.mem_map.mp hk
      exact fl_tup hσ (h6 y hy)
theorem hs_hol (i j : Nat) : j ∈ hs (hol i) ↔ j = i := by
  unfold hol
  rw [hs_hole, List.mem_singleton]
/-- a pattern made dense has the holes below m -/
theorem dense_holes {n : Nat} {t : Th} {S : List Nat} (h : PfT n t) (nd : S.Nodup) (h1 : ∀ i ∈ hs t, i ∈ S) (h2 : ∀ i ∈ S, i ∈ hs t) (j : Nat) : j ∈ hs (fl (ix S) t) ↔ j < S.length := by
  rw [hs_fl n h]
  unfold ix
  constructor
  · rintro ⟨i, hi, hj⟩
    rw [(hs_hol _ _).mp hj]
    exact List.idxOf_lt_length_iff.mpr (h1 i hi)
  · intro hj
    refine ⟨S[j], h2 _ (List.getElem_mem hj), (hs_hol _ _).mpr ?_⟩
    have e1 : S.idxOf S[j] < S.length := List.idxOf_lt_length_iff.mpr (List.getElem_mem hj)
    have e2 : S[S.idxOf S[j]] = S[j] := List.getElem_idxOf e1
    exact ((List.getElem_inj nd).mp e2).symm
/-- turned about, the same holes -/
theorem turned_holes {n m : Nat} {t : Th} (h : PfT n t) (hh : ∀ i, i ∈ hs t ↔ i < m) (j : Nat) : j ∈ hs (fl (fun i => hol (m - 1 - i)) t) ↔ j < m := by
  rw [hs_fl n h]
  constructor
  · rintro ⟨i, hi, hj⟩
    have h1 := (hh i).mp hi
    have h2 := (hs_hol _ _).mp hj
    omega
  · intro hj
    exact ⟨m - 1 - j, (hh _).mpr (by omega), (hs_hol _ _).mpr (by omega)⟩
theorem sg_tps {ts : List Th} (h : ∀ t ∈ ts, L2.isTup t = true) : Tps (sg ts) := fun i => by
  unfold sg
  rw [List.getD_eq_getElem?_getD]
  cases e : ts[i]? with
  | none => rfl
  | some t => exact h t (List.mem_of_getElem? e)
theorem sg_range (ts : List Th) : (List.range ts.length).map (sg ts) = ts := by
  refine List.ext_getElem? fun i => ?_
  rw [List.getElem?_map]
  by_cases h : i < ts.length
  · rw [List.getElem?_range h, List.getElem?_eq_getElem h]
    show some (sg ts i) = _
    unfold sg
    simp [List.getD, h]
  · rw [List.getElem?_eq_none (by rw [List.length_range]; omega), List.getElem?_eq_none (by omega)]
    rfl
theorem sg_pf {ts : List Th} {k m : Nat} (h : ∀ t ∈ ts, PfT k t) {i : Nat} (hi : i < ts.length) : PfT k (sg ts i) := by
  unfold sg
  rw [show ts.getD i (.tup []) = ts[i] by simp [List.getD, hi]]
  exact h _ (List.getElem_mem hi)
end K17

set_option Elab.async false
set_option linter.all false
set_option maxRecDepth 100000
set_option maxHeartbeats 4000000
namespace K17
open PySem L2
def But2 (d e : Addr) (H H' : Hp) : Prop := ∀ b o, H b = some o → b ≠ d → b ≠ e → H' b = some o
theorem But2.refl (d e : Addr) (H : Hp) : But2 d e H H := fun _ _ h _ _ => h
theorem But2.trans {d e : Addr} {H H1 H2 : Hp} (a : But2 d e H H1) (b : But2 d e H1 H2) : But2 d e H H2 := fun c o h n m => b c o (a c o h n m) n m
theorem But2.of {d e : Addr} {H H1 : Hp} (a : But d H H1) : But2 d e H H1 := fun c o h n _ => a c o h n
theorem But2.same {d e : Addr} {H H1 : Hp} (a : Same H H1) : But2 d e H H1 := fun c o h _ _ => a c o h
theorem But2.upd {d e : Addr} {H : Hp} {o : HO} : But2 d e H (upd H e o) := fun c u h _ n => by rw [upd_ne n]; exact h
/-- a bag of forms -/
structure Bag (H : Hp) (bg : Addr) (B : Nat) (ts : List Th) : Prop where
  l : ∃ ws, H bg = some (.lst ws) ∧ IsThs H ws ts
  few : ts.length ≤ 100
  ok : ∀ t ∈ ts, PfT B t ∧ cnt t ≤ 1000
/-- what stands between two statements -/
structure Cf (H H' : Hp) (d l wd nm bg : Addr) (ns : List Int) (n : Nat) (r h s : Int) (T : List Str) (B : Nat) (ts : List Th) : Prop where
  F : Feed H' d l ns n
  W : H' wd = some (.dK (worldKV nm r h s bg))
  N : Nms H' nm T
  G : Bag H' bg B ts
  b2 : But2 d wd H H'
section
variable {H H1 H2 : Hp} {d l wd nm bg : Addr} {ns : List Int} {n n2 : Nat} {r r2 h s : Int} {T : List Str} {B : Nat} {ts : List Th}
theorem Cf.kp (C : Cf H H1 d l wd nm bg ns n r h s T B ts) (b : But2 d wd H1 H2) : Kp H1 H2 := by
  obtain ⟨⟨⟨z, hd⟩, _, _⟩, W, _⟩ := C
  intro a o h hk
  exact b a o h (fun q => by subst q; rw [hd] at h; cases h; exact hk _ rfl) (fun q => by subst q; rw [W] at h; cases h; exact hk _ rfl)
theorem Nms.kp (N : Nms H1 nm T) (k : Kp H1 H2) : Nms H2 nm T := ⟨k _ _ N.a (by intro kvs q; cases q), N.l1, N.l2, N.nm⟩
theorem Bag.kp (G : Bag H1 bg B ts) (k : Kp H1 H2) : Bag H2 bg B ts := by
  obtain ⟨⟨ws, a, b⟩, c, d⟩ := G
  exact ⟨⟨ws, k _ _ a (by intro kvs q; cases q), IsThs.kp k b⟩, c, d⟩
theorem Cf.go (C : Cf H H1 d l wd nm bg ns n r h s T B ts) (b : But2 d wd H1 H2) (F2 : Feed H2 d l ns n2) (W2 : H2 wd = some (.dK (worldKV nm r2 h s bg))) : Cf H H2 d l wd nm bg ns n2 r2 h s T B ts :=
  ⟨F2, W2, C.N.kp (C.kp b), C.G.kp (C.kp b), C.b2.trans b⟩
theorem Cf.draw (C : Cf H H1 d l wd nm bg ns n r h s T B ts) (b : But d H1 H2) (F2 : Feed H2 d l ns n2) : Cf H H2 d l wd nm bg ns n2 r h s T B ts := C.go (But2.of b) F2 (b wd _ C.W (world_ne C.F C.W))
theorem Cf.same (C : Cf H H1 d l wd nm bg ns n r h s T B ts) (e : Same H1 H2) : Cf H H2 d l wd nm bg ns n r h s T B ts := C.go (But2.same e) (C.F.same e) (e _ _ C.W)
theorem Cf.room (C : Cf H H1 d l wd nm bg ns n r h s T B ts) : Cf H (upd H1 wd (.dK (worldKV nm r2 h s bg))) d l wd nm bg ns n r2 h s T B ts := by
  have hne := world_ne C.F C.W
  refine C.go But2.upd ?_ upd_same
  obtain ⟨⟨z, hd⟩, hl, hs⟩ := C.F
  refine ⟨⟨z, by rw [upd_ne hne.symm]; exact hd⟩, ?_, hs⟩
  rw [upd_ne (ne_of hl C.W (by intro q; cases q))]
  exact hl
end
def cD : Nat → Nat
  | 0 => 0
  | N + 1 => 30 + 6 * cD N
/-- what the room tells of a form -/
def Rm (N : Nat) (r r' : Int) (c : Nat) : Prop := (c : Int) + r' ≤ r ∧ (r ≤ 1 → r - 1 ≤ r') ∧ (2 ≤ r → 1 - 6 * (N : Int) ≤ r')
def spForm (B N : Nat) : Sp := fun vs H Q _ => ∃ (d l wd nm bg : Addr) (ns : List Int) (n : Nat) (r h s lt bb : Int) (T : List Str) (ts : List Th), vs = [.ref d, .ref wd, .int lt, .int bb] ∧ Cf H H d l wd nm bg ns n r h s T B ts ∧ n + cD N ≤ 700000000000 ∧ h ≤ 1000 ∧ 0 ≤ lt ∧ 0 ≤ s ∧ lt + s + N ≤ 1000 ∧ 1 ≤ bb ∧ bb ≤ N ∧ N ≤ 10 ∧
  ∀ (v : V) (t : Th) n' r' H', IsTh H' v t → PfT (N + B) t → Rm N r r' (cnt t) → (ts = [] → ∀ i ∈ hs t, ((i : Nat) : Int) < h) → n' ≤ n + cD N → Cf H H' d l wd nm bg ns n' r' h s T B ts → Q v H'
def kinds12 : List Str := ["op", "do", "let", "call", "pick", "set", "again", "say", "op", "let", "leaf", "bag"]
theorem nd_form : (["_law_below", "_law_feed_here", "_law_k", "_law_lets", "_law_world_here"] : List Str).Nodup := by decide +kernel
section
variable {P : Program} {w : World} {K : PySem.W.Frag} {mg : Str → Option Value} {base : Heap}
theorem scForm : FnScope ["_law_feed_here", "_law_world_here", "_law_lets", "_law_below", "_law_kinds", "_law_kind", "_law_found", "_law_names_here", "_law_first", "_law_head", "_law_many"] ["_law_feed_here", "_law_world_here", "_law_lets", "_law_below"] (defScope sForm) := ⟨rfl, rfl, rfl, by decide +kernel, rfl, by decide +kernel, by decide +kernel⟩
end
end K17

set_option Elab.async false
set_option linter.all false
set_option maxRecDepth 100000
set_option maxHeartbeats 4000000
namespace L2
open PySem PySem.Spec PyProof.Rows
/-- l != [] -/
theorem op_ne_nil {X : Cx} (hu : X.A.units < cLine) : OpR X (compareOp .NotEq) (fun x y H Q => ∃ a b xs, x = .ref a ∧ y = .ref b ∧ SqL X.K H a xs ∧ SqL X.K H b [] ∧ Q (.bl (!xs.isEmpty)) H) := by
  intro pins s σ H x y v u Q I rx ry h
  obtain ⟨a, b, xs, rfl, rfl, hx, hy, q⟩ := h
  cases rx
  cases ry
  obtain ⟨its, r, pl, hz⟩ := I.list hx
  obtain ⟨its2, r2, pl2, hz2⟩ := I.list hy
  have hl := r.length
  have hl2 := r2.length
  cases xs with
  | nil =>
    refine SeqAt.RcNeAt.lists (e := fun _ => true) pl.isList pl2.isList (by simp only [List.size_toArray]; simp at hl hl2; omega) hu (fun j h1 h2 => ?_) X.prog X.w _ _ ?_
    · simp only [List.size_toArray] at h1
      simp at hl
      omega
    · refine fin_bl I q ?_
      rw [List.size_toArray, ← hl]
      rfl
  | cons z zs =>
    refine SeqAt.RcNeAt.lists_lengths pl.isList pl2.isList (by simp only [List.size_toArray, bne_iff_ne]; simp at hl hl2; omega) hu X.prog X.w _ _ ?_
    exact fin_bl I q rfl
end L2
namespace K17
open PySem L2
section
variable {P : Program} {w : World} {K : PySem.W.Frag} {mg : Str → Option Value} {base : Heap}
/-- between the statements that make a head -/
def MC (H : Hp) (d l wd nm bg e : Addr) (ns : List Int) (n : Nat) (r h sa lt bb : Int) (T : List Str) (B : Nat) (ts : List Th) (kd : Str) (o6 : Option V) (j : Nat) : St → Hp → Prop := fun σ' H' => ∃ (ha : Addr) (hd : List V) (mn : Int) (n' : Nat),
  σ' = [some (.ref d), some (.ref wd), some (.int lt), some (.int bb), some (.ref e), some (.str kd), o6, some (.ref nm), none, some (.ref ha), some (.int mn)] ∧ H' ha = some (.lst (.str kd :: hd)) ∧ hd.length ≤ 1 ∧ (∀ v ∈ hd, plT (.at v) = true ∧ smallV v = true) ∧ 0 ≤ mn ∧ mn ≤ 6 ∧ n' ≤ n + j ∧ Cf H H' d l wd nm bg ns n' r h sa T B ts
theorem ok_form {f fD fS fL fN : Addr} {fd dD dS dL dN : FuncData} (F : Fun K "_law_form" "_law_form" sForm f fd) (b : Binds K fd ["_law_feed_here", "_law_world_here", "_law_lets", "_law_below"] []) (m : mg "_law_form" = some (.ref f)) (U : Helpers K mg fD fS dD dS) (T0 : TxtT mg)
    (GL : FnOk P w K mg base CX0 3 fL dL ["_law_feed_here", "_law_world_here", "_law_lets"] spLeaf) (FL : Fun K "_law_leaf" "_law_leaf" sLeaf fL dL) (bL : Binds K dL ["_law_feed_here", "_law_world_here", "_law_lets"] []) (mL : mg "_law_leaf" = some (.ref fL))
    (GN : ∀ N, FnOk P w K mg base CX0 (N + 2) fN dN ["_law_e"] (spNodes N)) (FN : Fun K "_law_nodes" "_law_nodes" sNodes fN dN) (bN : Binds K dN ["_law_e"] []) (mN : mg "_law_nodes" = some (.ref fN)) (B : Nat) : ∀ N, FnOk P w K mg base CX0 (N + B + 4) f fd ["_law_feed_here", "_law_world_here", "_law_lets", "_law_below"] (spForm B N) := by
  have GD : FnOk P w K mg base CX0 1 fD dD ["_law_feed_here", "_law_many"] spDraw := ok_draw U.D U.T
  intro N
  induction N with
  | zero =>
    refine F.ok scForm (fun vs H Q E h => ?_) (fun cdv A outer s H vs Q E hr h => ?_)
    · obtain ⟨d, l, wd, nm, bg, ns, n, r, h, s, lt, bb, T, ts, rfl, _⟩ := h
      rfl
    · obtain ⟨d, l, wd, nm, bg, ns, n, r, h, s, lt, bb, T, ts, rfl, _, _, _, _, _, _, h1, h2, _⟩ := h
      exact absurd h2 (by omega)
  | succ N ih =>
    refine F.ok scForm (fun vs H Q E h => ?_) (fun cdv A outer s H vs Q E hr h => ?_)
    · obtain ⟨d, l, wd, nm, bg, ns, n, r, h, s, lt, bb, T, ts, rfl, _⟩ := h
      rfl
    · obtain ⟨d, l, wd, nm, bg, ns, n, r, h, sa, lt, bb, T, ts, rfl, C0, hn, hh, hlt0, hs0, hls, hb1, hbN, hN10, k⟩ := h
      have hsz : sizeLine = 16777216 := sizeLine_eq
      have hu : (_ : Around).units + 1 < cLine := Nat.lt_of_le_of_lt (Nat.add_le_add_left (by decide) _) hr.units
      have hu0 := hr.units0
      have hr1 : Room 1 _ := hr.mono (by omega)
      have hr3 : Room 3 _ := hr.mono (by omega)
      have hrB : Room (B + 2) _ := hr.mono (by omega)
      have hrN : Room (N + B + 4) _ := hr.mono (by omega)
      refine' ⟨?tt, ?body, ?fin⟩
      case body =>
        refine' pss_cons ?s1 ?r1
        case s1 => exact ps_dput hu (pv 1) pe_str (pe_op op_sub (pe_dget hu (pv 1) pe_str (fun _ _ => rfl)) pe_int) rfl
        case r1 =>
          refine' pss_cons ?s2 ?r2
          case s2 =>
            refine' ps_set9 (i := 4) ?ha ?hb ?hc ?hd ?he ?hf
            case ha => exact scForm.nd
            case hb => exact rfl
            case hc => exact (Or.inl rfl)
            case he => exact rfl
            case hf => exact (.inr rfl)
            case hd =>
              refine' @pe_consts ((cxOf CX0 P w K mg base ["_law_feed_here", "_law_world_here", "_law_lets", "_law_below", "_law_kinds", "_law_kind", "_law_found", "_law_names_here", "_law_first", "_law_head", "_law_many"] "_law_form" (defScope sForm) f cdv A outer s H E).nox) _ (kinds12.map V.str) ?q
              case q => decide +kernel
          case r2 =>
            refine' pss_cut ?s3 ?r3
            case s3 => exact ps_set (i := 5) scForm.nd rfl (Or.inl rfl) (pe_ix ix_list (pv 4) (pe_call GD hr1 (by rfl) U.mD U.D.kp U.bD .nil pass0 (pa_n (pv 0) (pa_k pe_int pa_nil))) (fun _ _ => rfl))
            case r3 =>
              refine' pss_cut ?s4 ?r4
              case s4 =>
                refine' ps_if ?c (pss_cons ?e1 (pss_one ?e2)) pss_nil
                case c => exact (pw_and (pt_cmpR op_eq (pv 5) pe_str (nomark _)) (pw_and1 (pt_cmpR (op_ne_nil hu0) (pe_dget hu (pv 1) pe_str (fun _ _ => rfl)) (pe_lst pa_nil) (nomark _)))).pt
                case e1 => exact ps_set (i := 6) scForm.nd rfl (Or.inl rfl) (pe_ix ix_list (pe_dget hu (pv 1) pe_str (fun _ _ => rfl)) (pe_call GD hr1 (by rfl) U.mD U.D.kp U.bD .nil pass0 (pa_n (pv 0) (pa_c (pe_callB call_len_seq (by rfl) U.T.len PySem.boot_len (pa_cons (pe_dget hu (pv 1) pe_str (fun _ _ => rfl)) pa_nil)) pa_nil))) (fun _ _ => rfl))
                case e2 =>
                  refine' ps_if ?c2 (pss_cons ?e3 (pss_one ?e4)) pss_nil
                  case c2 => exact (pw_and (pt_cmpR op_gt (pv 3) pe_int (nomark _)) (pw_and1 (pt_cmpR op_le (pe_call (GN B) hrB (by rfl) mN FN.kp bN .nil pass0 (pa_n (pv 6) pa_nil)) (pe_dget hu (pv 1) pe_str (fun _ _ => rfl)) (nomark _)))).pt
                  case e3 => exact ps_dput hu (pv 1) pe_str (pe_op op_sub (pe_dget hu (pv 1) pe_str (fun _ _ => rfl)) (pe_call (GN B) hrB (by rfl) mN FN.kp bN .nil pass0 (pa_n (pv 6) pa_nil))) rfl
                  case e4 => exact ps_ret (pv 6)
              case r4 =>
                refine' pss_cut ?s5 ?r5
                case s5 =>
                  refine' ps_if ?c (pss_one ?e) pss_nil
                  case c => exact (pw_or (pt_cmpR op_lt (pv 3) pe_int (nomark _)) (pw_or (pt_cmpR op_lt (pe_dget hu (pv 1) pe_str (fun _ _ => rfl)) pe_int (nomark _)) (pw_or1 (pt_cmpR op_in_seq (pv 5) (pe_tup (pa_k pe_str (pa_k pe_str pa_nil))) (by with_unfolding_all rfl))))).pt
                  case e => exact ps_ret (pe_call GL hr3 (by rfl) mL FL.kp bL .nil pass0 (pa_n (pv 0) (pa_n (pv 1) (pa_n (pv 2) pa_nil))))
                case r5 =>
                  refine' pss_cons ?s6 ?r6
                  case s6 => exact ps_set (i := 7) scForm.nd rfl (Or.inl rfl) (pe_dget hu (pv 1) pe_str (fun _ _ => rfl))
                  case r6 =>
                    refine' pss_cons ?s7 ?r7
                    case s7 =>
                      refine' ps_if ?c (pss_cons ?e1 (pss_one ?e2)) pss_nil
                      case c => exact pt_cmpR op_eq (pv 5) pe_str (nomark _)
                      case e1 => exact ps_set (i := 8) scForm.nd rfl (Or.inl rfl) (pe_call ih hrN (by rfl) m F.kp b .nil pass0 (pa_n (pv 0) (pa_n (pv 1) (pa_n (pv 2) (pa_cons (pe_op op_sub (pv 3) pe_int) pa_nil)))))
                      case e2 => exact ps_ret (pe_tup (pa_k pe_str (pa_n (pv 8) (pa_c (pe_call ih hrN (by rfl) m F.kp b .nil pass0 (pa_n (pv 0) (pa_n (pv 1) (pa_cons (pe_op op_add (pv 2) pe_int) (pa_cons (pe_op op_sub (pv 3) pe_int) pa_nil))))) pa_nil))))
                    case r7 =>
                      refine' pss_cons ?s8 ?r8
                      case s8 => exact ps_set (i := 9) scForm.nd rfl (Or.inl rfl) (pe_lst (pa_n (pv 5) pa_nil))
                      case r8 =>
                        refine' pss_cut ?s9 ?r9
                        case s9 => exact ps_set (i := 10) scForm.nd rfl (Or.inl rfl) pe_int
                        case r9 =>
                          refine' pss_cut ?s10 ?r10
                          case s10 =>
                            refine' ps_if ?c (pss_cons ?e1 (pss_one ?e2)) pss_nil
                            case c => exact pt_cmpR op_eq (pv 5) pe_str (nomark _)
                            case e1 => exact ps_set (i := 9) scForm.nd rfl (Or.inl rfl) (pe_lst (pa_k pe_str (pa_cons (pe_ix ix_str pe_str (pe_call GD hr1 (by rfl) U.mD U.D.kp U.bD .nil pass0 (pa_n (pv 0) (pa_k pe_int pa_nil))) (fun _ _ => rfl)) pa_nil)))
                            case e2 => exact ps_set (i := 10) scForm.nd rfl (Or.inl rfl) pe_int
                          case r10 =>
                            refine' pss_cut ?s11 ?r11
                            case s11 => exact ps_if (pt_cmpR op_eq (pv 5) pe_str (nomark _)) (pss_one (ps_set (i := 10) scForm.nd rfl (Or.inl rfl) pe_int)) pss_nil
                            case r11 =>
                              refine' pss_cut ?s12 ?r12
                              case s12 =>
                                refine' ps_if ?c (pss_one ?e) pss_nil
                                case c => exact pt_cmpR op_eq (pv 5) pe_str (nomark _)
                                case e => exact ps_setIxC (i := 10) (vs := [.int 2, .int 1, .int 3, .int 2, .int 6, .int 4]) scForm.nd rfl (Or.inl rfl) ⟨_, _, _, _, _, rfl, by decide +kernel⟩ (pe_call GD hr1 (by rfl) U.mD U.D.kp U.bD .nil pass0 (pa_n (pv 0) (pa_k pe_int pa_nil))) (fun _ _ => rfl) (.inr rfl)
                              case r12 =>
                                refine' pss_cut ?s13 ?r13
                                case s13 =>
                                  refine' ps_if ?c (pss_cons ?e1 (pss_one ?e2)) pss_nil
                                  case c => exact pt_cmpR op_eq (pv 5) pe_str (nomark _)
                                  case e1 => exact ps_set (i := 9) scForm.nd rfl (Or.inl rfl) (pe_lst (pa_k pe_str (pa_cons (pe_ix ix_list (pv 7) (pe_call GD hr1 (by rfl) U.mD U.D.kp U.bD .nil pass0 (pa_n (pv 0) (pa_c (pe_callB call_len_seq (by rfl) U.T.len PySem.boot_len (pa_n (pv 7) pa_nil)) pa_nil))) (fun _ _ => rfl)) pa_nil)))
                                  case e2 => exact ps_setIxC (i := 10) (vs := [.int 1, .int 0, .int 2, .int 3, .int 6, .int 1]) scForm.nd rfl (Or.inl rfl) ⟨_, _, _, _, _, rfl, by decide +kernel⟩ (pe_call GD hr1 (by rfl) U.mD U.D.kp U.bD .nil pass0 (pa_n (pv 0) (pa_k pe_int pa_nil))) (fun _ _ => rfl) (.inr rfl)
                                case r13 =>
                                  refine' pss_cut ?s14 ?r14
                                  case s14 =>
                                    refine' ps_if ?c (pss_one ?e) pss_nil
                                    case c => exact pt_cmpR op_eq (pv 5) pe_str (nomark _)
                                    case e => exact ps_set (i := 9) scForm.nd rfl (Or.inl rfl) (pe_lst (pa_k pe_str (pa_cons (pe_ix ix_list (pv 7) (pe_call GD hr1 (by rfl) U.mD U.D.kp U.bD .nil pass0 (pa_n (pv 0) (pa_c (pe_callB call_len_seq (by rfl) U.T.len PySem.boot_len (pa_n (pv 7) pa_nil)) pa_nil))) (fun _ _ => rfl)) pa_nil)))
                                  case r14 =>
                                    refine' pss_cut ?s15 ?r15
                                    case s15 =>
                                      refine' ps_if ?c (pss_one ?e) pss_nil
                                      case c => exact pt_cmpR op_eq (pv 5) pe_str (nomark _)
                                      case e => exact ps_set (i := 9) scForm.nd rfl (Or.inl rfl) (pe_lst (pa_k pe_str (pa_c (pe_call GD hr1 (by rfl) U.mD U.D.kp U.bD .nil pass0 (pa_n (pv 0) (pa_k pe_int pa_nil))) pa_nil)))
                                    case r15 =>
                                      refine' pss_one ?s16
                                      case s16 =>
                                        refine' ps_ret ?r
                                        case r =>
                                          refine' pe_callTy call_tuple_of (by rfl) T0.tup (by decide +kernel) ?a
                                          case a =>
                                            refine' pa_cons ?x pa_nil
                                            case x =>
                                              refine' pe_op op_cat (pv 9) ?y
                                              case y =>
                                                refine' pe_comp (N' := ["_law_below", "_law_feed_here", "_law_k", "_law_lets", "_law_world_here"]) (src := [some 3, some 0, none, some 2, some 1]) ?k1 ?k5 ?k6 ?k7
                                                case k1 => rfl
                                                case k5 => exact compScope_of (defScope sForm) rfl ["_law_feed_here", "_law_world_here", "_law_lets", "_law_below", "_law_kinds", "_law_kind", "_law_found", "_law_names_here", "_law_first", "_law_head", "_law_many"] rfl (by decide +kernel)
                                                case k6 => exact pi_range1 (by rfl) U.T.range (pa_n (pv 10) pa_nil)
                                                case k7 => exact fun cl C ex s0 H0 => ⟨pg_name (i := 2) nd_form rfl (Or.inl rfl), pts_nil, pe_call ih hrN (by rfl) m F.kp b .nil pass0 (pa_n (pv 1) (pa_n (pv 4) (pa_n (pv 3) (pa_cons (pe_op op_sub (pv 0) pe_int) pa_nil))))⟩
      case fin =>
        have ec : cD (N + 1) = 30 + 6 * cD N := rfl
        refine ⟨_, rfl, wd, .int r, rfl, wget_room C0.W, _, _, rfl, rfl, _, rfl, wd, _, rfl, wset_room C0.W, ?_⟩
        have C1 := C0.room (r2 := r - 1)
        refine ⟨small_len (by decide +kernel), fun e he => ?_⟩
        have C2 := C1.same (same_upd (o := .lst (kinds12.map V.str)) he)
        have E2 : upd (upd H wd (.dK (worldKV nm (r - 1) h sa bg))) e (.lst (kinds12.map V.str)) e = some (.lst (kinds12.map V.str)) := upd_same
        generalize upd (upd H wd (.dK (worldKV nm (r - 1) h sa bg))) e (.lst (kinds12.map V.str)) = H2 at C2 E2 ⊢
        refine ⟨fun σ' H' => ∃ (kd : Str) (n' : Nat), σ' = [some (.ref d), some (.ref wd), some (.int lt), some (.int bb), some (.ref e), some (.str kd), none, none, none, none, none] ∧ kd ∈ kinds12 ∧ n' ≤ n + 1 ∧ Cf H H' d l wd nm bg ns n' (r - 1) h sa T B ts, ?_, ?_⟩
        · refine ⟨_, rfl, _, rfl, d, l, ns, n, _, rfl, C2.F, by omega, by decide, by decide, fun i n1 H3 i0 i1 hn1 F3 b3 => ?_⟩
          obtain ⟨v3, hv3, hat3⟩ := at_in (xs := kinds12.map V.str) (i := i) i0 (Int.lt_of_lt_of_le i1 (by decide +kernel))
          obtain ⟨kd, hk, rfl⟩ := List.mem_map.mp hv3
          exact ⟨e, kinds12.map V.str, i, .str kd, rfl, rfl, SqL.of (C2.F.lst b3 E2), hat3, kd, n1, rfl, hk, by omega, C2.draw b3 F3⟩
        rintro σ3 H3 ⟨kd, n3, rfl, hkd, hn3, C3⟩
        refine ⟨fun σ' H' => ∃ (o6 : Option V) (n' : Nat) (r' : Int), σ' = [some (.ref d), some (.ref wd), some (.int lt), some (.int bb), some (.ref e), some (.str kd), o6, none, none, none, none] ∧ n' ≤ n + 2 ∧ r' = r - 1 ∧ Cf H H' d l wd nm bg ns n' r' h sa T B ts, ?_, ?_⟩
        · refine ⟨_, rfl, rfl, _, rfl, ite2 (fun g => ?_) (fun g => iteF ⟨none, n3, _, rfl, by omega, rfl, C3⟩)⟩
          obtain ⟨⟨ws, hbg, hws⟩, hfew, hok⟩ := C3.G
          refine ⟨_, rfl, wd, .ref bg, rfl, wget_bag C3.W, Nat.zero_le _, fun q hq => ?_⟩
          have sq := same_upd (o := .lst []) hq
          have C4 := C3.same sq
          have hbg4 := sq _ _ hbg
          have hws4 := IsThs.kp (Kp.of sq) hws
          refine ⟨bg, q, ws, rfl, rfl, SqL.of hbg4, SqL.of upd_same, _, rfl, ite2 (fun g2 => ?_) (fun g2 => ⟨none, n3, _, rfl, by omega, rfl, C4⟩)⟩
          have hwl := IsThs.len _ hws
          have hpos : 0 < ws.length := by
            cases ws with
            | nil => exact absurd g2 (by decide)
            | cons _ _ => exact Nat.succ_pos _
          refine ⟨_, rfl, wd, .ref bg, rfl, wget_bag C4.W, _, rfl, _, rfl, wd, .ref bg, rfl, wget_bag C4.W, bg, ws, rfl, .inl (SqL.of hbg4), d, l, ns, n3, _, rfl, C4.F, by omega, by show (0 : Int) < (ws.length : Int); omega, by show (ws.length : Int) < 18446744073709551616; omega, fun i n5 H5 i0 i1 hn5 F5 b5 => ?_⟩
          have C5 := C4.draw b5 F5
          have hbg5 := C4.F.lst b5 hbg4
          have hws5 := IsThs.kp (C4.kp (But2.of b5)) hws4
          obtain ⟨x, hx, hat5⟩ := at_in (xs := ws) (i := i) i0 i1
          obtain ⟨j, hj⟩ := List.getElem?_of_mem hx
          obtain ⟨t, htj, hxt⟩ := ths_get _ hws5 hj
          obtain ⟨tp, tc⟩ := hok t (List.mem_of_getElem? htj)
          refine ⟨bg, ws, i, x, rfl, rfl, SqL.of hbg5, hat5, ?_⟩
          refine ⟨_, rfl, _, _, rfl, rfl, _, rfl, ite2 (fun g3 => ?_) (fun g3 => iteF ⟨some x, n5, _, rfl, by omega, rfl, C5⟩)⟩
          refine ⟨_, rfl, x, t, rfl, hxt, tp, fun H6 s6 => ?_⟩
          have C6 := C5.same s6
          refine ⟨_, rfl, wd, .int _, rfl, wget_room C6.W, _, _, rfl, rfl, _, rfl, ite2 (fun g4 => ?_) (fun g4 => ⟨some x, n5, _, rfl, by omega, rfl, C6⟩)⟩
          refine ⟨_, rfl, wd, .int _, rfl, wget_room C6.W, _, rfl, x, t, rfl, IsTh.kp (Kp.of s6) hxt, tp, fun H7 s7 => ?_⟩
          have C7 := C6.same s7
          refine ⟨_, _, rfl, rfl, _, rfl, wd, _, rfl, wset_room C7.W, _, rfl, ?_⟩
          have g5 : (cnt t : Int) ≤ r - 1 := by simpa using g4
          have c1 := cnt_pf tp
          refine k x t n5 _ _ (IsTh.kp (kp_dk C7.W) (IsTh.kp (Kp.of (s6.trans s7)) hxt)) (tp.le (by omega)) ⟨by omega, by omega, by omega⟩ (fun z => by rw [z] at htj; simp at htj) (by omega) C7.room
        rintro σ4 H4 ⟨o6, n4, r4, rfl, hn4, hr4, C4⟩
        have fin5 : ∀ H5, Cf H H5 d l wd nm bg ns n4 r4 h sa T B ts → ∀ (v : V) (t : Th) n' H', IsTh H' v t → LeafT h t → n' ≤ n4 + 5 → Feed H' d l ns n' → But d H5 H' → Q v H' := by
          intro H5 C5 v t n' H' hv ht hn' F' b'
          exact k v t n' r4 H' hv (ht.1.le (by omega)) ⟨by rw [ht.2.1]; omega, by omega, by omega⟩ (fun _ => ht.2.2.2) (by omega) (C5.draw b' F')
        refine ⟨fun σ' H' => σ' = [some (.ref d), some (.ref wd), some (.int lt), some (.int bb), some (.ref e), some (.str kd), o6, none, none, none, none] ∧ 2 ≤ bb ∧ 1 ≤ r4 ∧ Cf H H' d l wd nm bg ns n4 r4 h sa T B ts, ?_, ?_⟩
        · refine ⟨_, rfl, _, _, rfl, rfl, _, rfl, ite2 (fun g => iteT ?_) (fun g => ?_)⟩
          · exact ⟨_, rfl, _, rfl, _, rfl, d, l, wd, nm, bg, ns, n4, r4, h, sa, lt, T, rfl, C4.F, by omega, C4.W, C4.N, hh, by omega, fin5 _ C4⟩
          have hb2 : 2 ≤ bb := by
            have : ¬ bb < 2 := fun z => g (by simpa using z)
            omega
          refine ⟨_, rfl, wd, .int r4, rfl, wget_room C4.W, _, _, rfl, rfl, _, rfl, ite2 (fun g2 => iteT ?_) (fun g2 => ?_)⟩
          · exact ⟨_, rfl, _, rfl, _, rfl, d, l, wd, nm, bg, ns, n4, r4, h, sa, lt, T, rfl, C4.F, by omega, C4.W, C4.N, hh, by omega, fin5 _ C4⟩
          have h41 : 1 ≤ r4 := by
            have : ¬ r4 < 6 := fun z => g2 (by simpa using z)
            omega
          refine ⟨_, rfl, (by show 2 ≤ sizeLine; decide), fun q hq => ?_⟩
          have C5 := C4.same (same_upd (o := .tup [.str "leaf", .str "bag"]) hq)
          refine ⟨q, [.str "leaf", .str "bag"], rfl, .inr (SqT.of upd_same), rfl, rfl, _, rfl, ite2 (fun g3 => ?_) (fun g3 => ⟨rfl, hb2, h41, C5⟩)⟩
          exact ⟨_, rfl, _, rfl, _, rfl, d, l, wd, nm, bg, ns, n4, r4, h, sa, lt, T, rfl, C5.F, by omega, C5.W, C5.N, hh, by omega, fin5 _ C5⟩
        rintro σ5 H5 ⟨rfl, hb2, h41, C5⟩
        refine ⟨_, rfl, wd, .ref nm, rfl, wget_names C5.W, ?_⟩
        refine ⟨_, rfl, rfl, _, rfl, ite2 (fun g => ?_) (fun g => ?_)⟩
        · refine ⟨_, rfl, _, rfl, _, rfl, _, rfl, _, _, rfl, rfl, d, l, wd, nm, bg, ns, n4, r4, h, sa, lt, bb - 1, T, ts, rfl, ⟨C5.F, C5.W, C5.N, C5.G, But2.refl _ _ _⟩, by omega, hh, hlt0, hs0, by omega, by omega, by omega, by omega, fun v6 t6 n6 r6 H6 hv6 pf6 cn6 hs6 hn6 C6' => ?_⟩
          have C6 := C5.go C6'.b2 C6'.F C6'.W
          refine ⟨_, rfl, _, rfl, _, rfl, _, rfl, _, _, rfl, rfl, _, rfl, _, _, rfl, rfl, d, l, wd, nm, bg, ns, n6, r6, h, sa, lt + 1, bb - 1, T, ts, rfl, ⟨C6.F, C6.W, C6.N, C6.G, But2.refl _ _ _⟩, by omega, hh, by omega, hs0, by omega, by omega, by omega, by omega, fun v7 t7 n7 r7 H7 hv7 pf7 cn7 hs7 hn7 C7' => ⟨(by show 3 ≤ sizeLine; decide), fun p hp => ?_⟩⟩
          have C7 := C6.go C7'.b2 C7'.F C7'.W
          have sp := same_upd (o := .tup [.str "let", v6, v7]) hp
          have hv67 := IsTh.kp (C6.kp C7'.b2) hv6
          have nk : ∀ k ∈ [t6, t7], L2.isTup k = true := fun k hk => by
            simp only [List.mem_cons, List.not_mem_nil, or_false] at hk
            rcases hk with rfl | rfl
            · exact pf6.isTup
            · exact pf7.isTup
          refine k (.ref p) (nd "let" [] [t6, t7]) n7 r7 _ (.tup upd_same (.cons (.at (by decide +kernel)) (.cons (IsTh.kp (Kp.of sp) hv67) (.cons (IsTh.kp (Kp.of sp) hv7) .nil)))) ?_ ?_ ?_ (by omega) (C7.same sp)
          · rw [Nat.add_right_comm]
            refine ⟨"let", [], [t6, t7], rfl, Nat.zero_le _, fun v hv => (by cases hv), fun _ => ⟨rfl, rfl⟩, fun z => absurd z (by decide +kernel), by show 2 ≤ 6; decide, fun k hk => ?_⟩
            simp only [List.mem_cons, List.not_mem_nil, or_false] at hk
            rcases hk with rfl | rfl
            · exact pf6
            · exact pf7
          · rw [cnt_nd nk]
            simp only [cnts]
            obtain ⟨c6a, c6b, c6c⟩ := cn6
            obtain ⟨c7a, c7b, c7c⟩ := cn7
            exact ⟨by omega, by omega, by omega⟩
          · intro z0 i hi
            obtain ⟨k, hk, hj⟩ := (hs_nd (by decide +kernel)).mp hi
            simp only [List.mem_cons, List.not_mem_nil, or_false] at hk
            rcases hk with rfl | rfl
            · exact hs6 z0 i hj
            · exact hs7 z0 i hj
        · have hkl : kd ≠ "let" := fun z => g (by rw [z]; decide +kernel)
          have hkh : kd ≠ "hole" := fun z => by rw [z] at hkd; exact absurd hkd (by decide +kernel)
          refine ⟨_, rfl, (by show 1 ≤ sizeLine; decide), fun ha hha => ?_⟩
          have C6a := C5.same (same_upd (o := .lst [.str kd]) hha)
          refine ⟨MC H d l wd nm bg e ns n4 r4 h sa lt bb T B ts kd o6 0, ⟨ha, [], 1, n4, rfl, upd_same, Nat.zero_le _, fun v hv => (by cases hv), by decide, by decide, Nat.le_refl _, C6a⟩, ?_⟩
          rintro σ6 H6 ⟨ha6, hd6, mn6, n6, rfl, A6, hl6, hp6, m60, m61, hn6, C6⟩
          refine ⟨MC H d l wd nm bg e ns n4 r4 h sa lt bb T B ts kd o6 1, ?_, ?_⟩
          · refine ⟨_, rfl, rfl, _, rfl, ite2 (fun g2 => ?_) (fun g2 => ⟨ha6, hd6, mn6, n6, rfl, A6, hl6, hp6, m60, m61, by omega, C6⟩)⟩
            have ek : kd = "op" := by
              have g' := of_decide_eq_true g2
              injection g'
            subst ek
            refine ⟨_, rfl, d, l, ns, n6, _, rfl, C6.F, by omega, by decide, by decide, fun i n7 H7 i0 i1 hn7 F7 b7 => ?_⟩
            obtain ⟨c, _, hc⟩ := at_in (xs := ("+-*/<=" : Str).cps.toList) (i := i) i0 (Int.lt_of_lt_of_le i1 (by decide +kernel))
            refine ⟨"+-*/<=", i, c, rfl, rfl, (by decide +kernel), hc, (by show 2 ≤ sizeLine; decide), fun ha2 hha2 => ?_⟩
            exact ⟨ha2, [.str ⟨#[c]⟩], 2, n7, rfl, upd_same, Nat.le_refl _, fun v hv => (by rw [List.mem_singleton] at hv; subst hv; exact ⟨rfl, rfl⟩), by decide, by decide, by omega, (C6.draw b7 F7).same (same_upd hha2)⟩
          rintro σ7 H7 ⟨ha7, hd7, mn7, n7, rfl, A7, hl7, hp7, m70, m71, hn7, C7⟩
          refine ⟨MC H d l wd nm bg e ns n4 r4 h sa lt bb T B ts kd o6 1, ?_, ?_⟩
          · exact ⟨_, rfl, rfl, _, rfl, ite2 (fun g2 => ⟨ha7, hd7, 3, n7, rfl, A7, hl7, hp7, by decide, by decide, hn7, C7⟩) (fun g2 => ⟨ha7, hd7, mn7, n7, rfl, A7, hl7, hp7, m70, m71, hn7, C7⟩)⟩
          clear A7 hl7 hp7 m70 m71 hn7 C7 A6 hl6 hp6 m60 m61 hn6 C6
          rintro σ8 H8 ⟨ha8, hd8, mn8, n8, rfl, A8, hl8, hp8, m80, m81, hn8, C8⟩
          refine ⟨MC H d l wd nm bg e ns n4 r4 h sa lt bb T B ts kd o6 2, ?_, ?_⟩
          · refine ⟨_, rfl, rfl, _, rfl, ite2 (fun g2 => ?_) (fun g2 => ⟨ha8, hd8, mn8, n8, rfl, A8, hl8, hp8, m80, m81, by omega, C8⟩)⟩
            refine ⟨(by show 6 ≤ sizeLine; decide), fun q hq => ?_⟩
            have sq := same_upd (o := .lst [.int 2, .int 1, .int 3, .int 2, .int 6, .int 4]) hq
            have C9 := C8.same sq
            refine ⟨_, rfl, d, l, ns, n8, _, rfl, C9.F, by omega, by decide, by decide, fun i n9 H9 i0 i1 hn9 F9 b9 => ?_⟩
            obtain ⟨v, hv, hat⟩ := at_in (xs := ([.int 2, .int 1, .int 3, .int 2, .int 6, .int 4] : List V)) (i := i) i0 i1
            obtain ⟨z, rfl, z0, z1⟩ : ∃ z : Int, v = .int z ∧ 0 ≤ z ∧ z ≤ 6 := by
              simp only [List.mem_cons, List.not_mem_nil, or_false] at hv
              rcases hv with rfl | rfl | rfl | rfl | rfl | rfl <;> exact ⟨_, rfl, by decide, by decide⟩
            exact ⟨q, _, i, .int z, rfl, rfl, SqL.of (C9.F.lst b9 upd_same), hat, ha8, hd8, z, n9, rfl, C9.F.lst b9 (sq _ _ A8), hl8, hp8, z0, z1, by omega, C9.draw b9 F9⟩
          clear A8 hl8 hp8 m80 m81 hn8 C8
          rintro σ9 H9 ⟨ha9, hd9, mn9, n9, rfl, A9, hl9, hp9, m90, m91, hn9, C9⟩
          have l1 := C9.N.l1
          have l2 := C9.N.l2
          have hTl : ((T.map V.str).length : Int) = (T.length : Int) := by rw [List.length_map]
          refine ⟨MC H d l wd nm bg e ns n4 r4 h sa lt bb T B ts kd o6 4, ?_, ?_⟩
          · refine ⟨_, rfl, rfl, _, rfl, ite2 (fun g2 => ?_) (fun g2 => ⟨ha9, hd9, mn9, n9, rfl, A9, hl9, hp9, m90, m91, by omega, C9⟩)⟩
            have ek : kd = "call" := by
              have g' := of_decide_eq_true g2
              injection g'
            subst ek
            refine ⟨_, rfl, _, rfl, _, rfl, nm, T.map V.str, rfl, .inl (SqL.of C9.N.a), d, l, ns, n9, _, rfl, C9.F, by omega, by show (0 : Int) < ((T.map V.str).length : Int); omega, by show ((T.map V.str).length : Int) < 18446744073709551616; omega, fun i n10 H10 i0 i1 hn10 F10 b10 => ?_⟩
            obtain ⟨v, hv, hat⟩ := at_in (xs := T.map V.str) (i := i) i0 i1
            obtain ⟨t, ht, rfl⟩ := List.mem_map.mp hv
            have hNm := C9.N.nm t ht
            have C10 := C9.draw b10 F10
            refine ⟨nm, T.map V.str, i, .str t, rfl, rfl, SqL.of C10.N.a, hat, (by show 2 ≤ sizeLine; decide), fun ha2 hha2 => ?_⟩
            have s11 := same_upd (o := .lst [.str "call", .str t]) hha2
            have C11 := C10.same s11
            refine ⟨(by show 6 ≤ sizeLine; decide), fun q hq => ?_⟩
            have sq := same_upd (o := .lst [.int 1, .int 0, .int 2, .int 3, .int 6, .int 1]) hq
            have C12 := C11.same sq
            refine ⟨_, rfl, d, l, ns, n10, _, rfl, C12.F, by omega, by decide, by decide, fun i n13 H13 i0 i1 hn13 F13 b13 => ?_⟩
            obtain ⟨v, hv, hat⟩ := at_in (xs := ([.int 1, .int 0, .int 2, .int 3, .int 6, .int 1] : List V)) (i := i) i0 i1
            obtain ⟨z, rfl, z0, z1⟩ : ∃ z : Int, v = .int z ∧ 0 ≤ z ∧ z ≤ 6 := by
              simp only [List.mem_cons, List.not_mem_nil, or_false] at hv
              rcases hv with rfl | rfl | rfl | rfl | rfl | rfl <;> exact ⟨_, rfl, by decide, by decide⟩
            exact ⟨q, _, i, .int z, rfl, rfl, SqL.of (C12.F.lst b13 upd_same), hat, ha2, [.str t], z, n13, rfl, C12.F.lst b13 (sq _ _ upd_same), Nat.le_refl _, fun v hv => (by rw [List.mem_singleton] at hv; subst hv; exact ⟨rfl, decide_eq_true (Nat.le_trans hNm.1.2 (by decide))⟩), z0, z1, by omega, C12.draw b13 F13⟩
          clear A9 hl9 hp9 m90 m91 hn9 C9
          rintro σ10 H10 ⟨ha10, hd10, mn10, n10, rfl, A10, hl10, hp10, m100, m101, hn10, C10⟩
          refine ⟨MC H d l wd nm bg e ns n4 r4 h sa lt bb T B ts kd o6 5, ?_, ?_⟩
          · refine ⟨_, rfl, rfl, _, rfl, ite2 (fun g2 => ?_) (fun g2 => ⟨ha10, hd10, mn10, n10, rfl, A10, hl10, hp10, m100, m101, by omega, C10⟩)⟩
            have ek : kd = "set" := by
              have g' := of_decide_eq_true g2
              injection g'
            subst ek
            refine ⟨_, rfl, _, rfl, _, rfl, nm, T.map V.str, rfl, .inl (SqL.of C10.N.a), d, l, ns, n10, _, rfl, C10.F, by omega, by show (0 : Int) < ((T.map V.str).length : Int); omega, by show ((T.map V.str).length : Int) < 18446744073709551616; omega, fun i n11 H11 i0 i1 hn11 F11 b11 => ?_⟩
            obtain ⟨v, hv, hat⟩ := at_in (xs := T.map V.str) (i := i) i0 i1
            obtain ⟨t, ht, rfl⟩ := List.mem_map.mp hv
            have hNm := C10.N.nm t ht
            have C11 := C10.draw b11 F11
            refine ⟨nm, T.map V.str, i, .str t, rfl, rfl, SqL.of C11.N.a, hat, (by show 2 ≤ sizeLine; decide), fun ha2 hha2 => ?_⟩
            exact ⟨ha2, [.str t], mn10, n11, rfl, upd_same, Nat.le_refl _, fun v hv => (by rw [List.mem_singleton] at hv; subst hv; exact ⟨rfl, decide_eq_true (Nat.le_trans hNm.1.2 (by decide))⟩), m100, m101, by omega, C11.same (same_upd hha2)⟩
          clear A10 hl10 hp10 m100 m101 hn10 C10
          rintro σ11 H11 ⟨ha11, hd11, mn11, n11, rfl, A11, hl11, hp11, m110, m111, hn11, C11⟩
          refine ⟨MC H d l wd nm bg e ns n4 r4 h sa lt bb T B ts kd o6 6, ?_, ?_⟩
          · refine ⟨_, rfl, rfl, _, rfl, ite2 (fun g2 => ?_) (fun g2 => ⟨ha11, hd11, mn11, n11, rfl, A11, hl11, hp11, m110, m111, by omega, C11⟩)⟩
            have ek : kd = "again" := by
              have g' := of_decide_eq_true g2
              injection g'
            subst ek
            refine ⟨_, rfl, d, l, ns, n11, _, rfl, C11.F, by omega, by decide, by decide, fun i n12 H12 i0 i1 hn12 F12 b12 => ⟨(by show 2 ≤ sizeLine; decide), fun ha2 hha2 => ?_⟩⟩
            exact ⟨ha2, [.int i], mn11, n12, rfl, upd_same, Nat.le_refl _, fun v hv => (by rw [List.mem_singleton] at hv; subst hv; exact ⟨rfl, rfl⟩), m110, m111, by omega, (C11.draw b12 F12).same (same_upd hha2)⟩
          clear A11 hl11 hp11 m110 m111 hn11 C11
          rintro σ12 H12 ⟨ha, hd, mn, n12, rfl, A12, hl12, hp12, m120, m121, hn12, C12⟩
          have hkds : smallV (.str kd) = true := (by decide +kernel : ∀ t ∈ kinds12, smallV (.str t) = true) kd hkd
          refine ⟨_, rfl, _, rfl, mn, rfl, by omega, by omega, comp_range (lo := 0) (n := mn.toNat) (fun j ys σc H' => ∃ (o : Option V) (n' : Nat) (r' : Int) (cs : List Th), σc = [some (.int bb), some (.ref d), o, some (.int lt), some (.ref wd)] ∧ ys.length = j ∧ IsThs H' ys cs ∧ (∀ t ∈ cs, PfT (N + B) t ∧ (ts = [] → ∀ i ∈ hs t, ((i : Nat) : Int) < h)) ∧ ((cnts cs : Int) + r' ≤ r4 ∧ 1 - 6 * (N : Int) - j ≤ r') ∧ n' ≤ n12 + j * cD N ∧ Cf H H' d l wd nm bg ns n' r' h sa T B ts ∧ H' ha = some (.lst (.str kd :: hd)))
            ⟨none, n12, r4, [], rfl, rfl, .nil, fun t ht => (by cases ht), ⟨by show ((0 : Nat) : Int) + r4 ≤ r4; omega, by omega⟩, by omega, C12, A12⟩ ?_ ?_⟩
          · rintro j ys σc H' hj ⟨o, n', r', cs, rfl, hyl, hys, hcs, hrm, hn', C', A'⟩
            have hj6 : j ≤ 5 := by omega
            have hjm := Nat.mul_le_mul_right (cD N) hj6
            refine ⟨by omega, ?_⟩
            refine ⟨_, rfl, _, rfl, _, rfl, _, rfl, _, _, rfl, rfl, d, l, wd, nm, bg, ns, n', r', h, sa, lt, bb - 1, T, ts, rfl, ⟨C'.F, C'.W, C'.N, C'.G, But2.refl _ _ _⟩, by omega, hh, hlt0, hs0, by omega, by omega, by omega, by omega, fun v t n2 r2 H2 hv pf cn hs' hn2 C2' => nx hj ⟨_, n2, r2, cs ++ [t], rfl, by rw [List.length_append, hyl]; rfl, IsThs.app _ (IsThs.kp (C'.kp C2'.b2) hys) (.cons hv .nil), fun x hx => ?_, ?_, by rw [Nat.succ_mul]; omega, C'.go C2'.b2 C2'.F C2'.W, C'.kp C2'.b2 _ _ A' (by intro kvs q; cases q)⟩⟩
            · rcases List.mem_append.mp hx with z | z
              · exact hcs x z
              · rw [List.mem_singleton.mp z]
                exact ⟨pf, hs'⟩
            · obtain ⟨ca, cb, cc⟩ := cn
              rw [cnts_snoc]
              exact ⟨by omega, by omega⟩
          · rintro ys σc H' ⟨o, n', r', cs, rfl, hyl, hys, hcs, hrm, hn', C', A'⟩ q hq
            have sq := same_upd (o := .lst ys) hq
            have hcl := IsThs.len _ hys
            have hm6 : mn.toNat ≤ 6 := by omega
            have hjm := Nat.mul_le_mul_right (cD N) hm6
            refine ⟨ha, q, .str kd :: hd, ys, rfl, rfl, sq _ _ A', upd_same, by rw [List.length_cons]; omega, fun l2 hl2 => ?_⟩
            have s2 := same_upd (o := .lst ((.str kd :: hd) ++ ys)) hl2
            refine ⟨l2, _, rfl, .inl ⟨SqL.of upd_same, fun p hp => ?_⟩⟩
            have s3 := same_upd (o := .tup ((.str kd :: hd) ++ ys)) hp
            have sA := (sq.trans s2).trans s3
            have nk : ∀ k ∈ cs, L2.isTup k = true := fun k hk => (hcs k hk).1.isTup
            have hhd : ∀ (H0 : Hp) (hd : List V), (∀ v ∈ hd, plT (.at v) = true ∧ smallV v = true) → IsThs H0 hd (hd.map Th.at) := by
              intro H0 hd
              induction hd with
              | nil => intro _; exact .nil
              | cons x hd ih2 => intro hx; exact .cons (.at (hx x (List.mem_cons_self ..)).2) (ih2 fun v hv => hx v (List.mem_cons_of_mem _ hv))
            refine k (.ref p) (nd kd hd cs) n' r' _ (.tup upd_same (.cons (.at hkds) (IsThs.app _ (hhd _ hd hp12) (IsThs.kp (Kp.of sA) hys)))) ?_ ?_ ?_ (by omega) (C'.same sA)
            · rw [Nat.add_right_comm]
              exact ⟨kd, hd, cs, rfl, hl12, fun v hv => (hp12 v hv).1, fun z => absurd z hkl, fun z => absurd z hkh, by omega, fun k hk => (hcs k hk).1⟩
            · rw [cnt_nd nk]
              exact ⟨by omega, by omega, by omega⟩
            · intro z0 i hi
              obtain ⟨k, hk, hj⟩ := (hs_nd hkh).mp hi
              exact (hcs k hk).2 z0 i hj
end
end K17

set_option Elab.async false
set_option linter.all false
set_option maxRecDepth 100000
set_option maxHeartbeats 4000000
namespace K17
open PySem L2
theorem nb {n m c b : Nat} (h : n ≤ m + c) (hm : m ≤ 50000024) (hc : 50000024 + c ≤ b := by decide) : n ≤ b := Nat.le_trans h (Nat.le_trans (Nat.add_le_add_right hm c) hc)
theorem nt {a b c k l m : Nat} (h : a ≤ b + k) (h2 : b ≤ c + l) (hm : l + k ≤ m := by decide) : a ≤ c + m := by omega
theorem c45 {c : Nat} (h : (c : Int) < 16 + 6 * ((5 : Nat) : Int)) : c ≤ 45 := by omega
theorem c32 {c : Nat} (h : (c : Int) < 9 + 6 * ((4 : Nat) : Int)) : c ≤ 32 := by omega
theorem c19 {c : Nat} (h : (c : Int) < 8 + 6 * ((2 : Nat) : Int)) : c ≤ 19 := by omega
theorem sz45 {n : Nat} {t : Th} (pf : PfT n t) (h : cnt t ≤ 45) : Th.sz t ≤ 100000 := by have := sz_cnt _ pf; omega
theorem sz_bent {n m : Nat} {t l u : Th} (pf : PfT n t) (pl : PfT m l) (h1 : cnt t ≤ 130) (h2 : cnt l ≤ 19) (h : Th.sz u ≤ bdS t l) : Th.sz u ≤ 100000 := by
  unfold bdS at h
  have z1 := sz_cnt _ pf
  have z2 := sz_cnt _ pl
  have z3 : cnt t * Th.sz l ≤ 130 * 57 := Nat.mul_le_mul h1 (by omega)
  omega
/-- a call of form, whatever lies in the bag -/
def spFormU : Sp := fun vs H Q E => ∃ B N, B ≤ 20 ∧ N ≤ 5 ∧ spForm B N vs H Q E
theorem ok_formU {P : Program} {w : World} {K : PySem.W.Frag} {mg : Str → Option Value} {base : Heap} {f : Addr} {fd : FuncData} {ps : List Str} (G : ∀ B N, FnOk P w K mg base CX0 (N + B + 4) f fd ps (spForm B N)) : FnOk P w K mg base CX0 29 f fd ps spFormU :=
  ⟨fun vs H Q E ⟨B, N, _, _, h⟩ => (G B N).len vs H Q E h, fun A outer s H args us vs Q E hr he hb hv ⟨B, N, hB, hN, h⟩ => (G B N).run A outer s H args us vs Q E (hr.mono (by omega)) he hb hv h⟩
theorem cD5 : ∀ N : Fin 6, cD N.val ≤ 46650 := by decide
theorem use_form {H : Hp} {Q : VK} {E : XK} {d l wd nm bg : Addr} {ns : List Int} {n : Nat} {r h s bb : Int} {T : List Str} {ts : List Th} (B N : Nat) (F : Feed H d l ns n) (W : H wd = some (.dK (worldKV nm r h s bg))) (M : Nms H nm T) (G : Bag H bg B ts)
    (hn : n ≤ 600000000000) (hh : h ≤ 6) (hs0 : 0 ≤ s) (hs2 : s ≤ 2) (hB : B ≤ 20) (hN1 : 1 ≤ N) (hN : N ≤ 5) (hr : 2 ≤ r) (hb : bb = N)
    (k : ∀ (v : V) (t : Th) n' H', IsTh H' v t → PfT (N + B) t → (cnt t : Int) < r + 6 * N → (ts = [] → ∀ i ∈ hs t, i < 6) → n' ≤ n + 46650 → Feed H' d l ns n' → Kp H H' → Q v H') : spFormU [.ref d, .ref wd, .int 0, .int bb] H Q E := by
  have hc : cD N ≤ 46650 := cD5 ⟨N, by omega⟩
  have C0 : Cf H H d l wd nm bg ns n r h s T B ts := ⟨F, W, M, G, But2.refl _ _ _⟩
  refine ⟨B, N, hB, hN, d, l, wd, nm, bg, ns, n, r, h, s, 0, bb, T, ts, rfl, C0, by omega, by omega, Int.le_refl _, hs0, by omega, by omega, by omega, by omega, fun v t n' r' H' hv pf rm hs' hn' C' => k v t n' H' hv pf ?_ (fun z i hi => ?_) (by omega) C'.F (C0.kp C'.b2)⟩
  · obtain ⟨a, b, c⟩ := rm
    have := c hr
    omega
  · have := hs' z i hi
    omega
theorem but_upd {H : Hp} {a : Addr} {o : HO} : But a H (upd H a o) := fun c u h n => by rw [upd_ne n]; exact h
theorem Feed.butl {H H' : Hp} {d l sa : Addr} {ns : List Int} {n : Nat} {xs : List V} (F : Feed H d l ns n) (hs : H sa = some (.lst xs)) (hl : sa ≠ l) (b : But sa H H') : Feed H' d l ns n := by
  obtain ⟨⟨z, hd⟩, hl', hz⟩ := F
  exact ⟨⟨z, b _ _ hd (ne_of hd hs (by intro q; cases q))⟩, b _ _ hl' (Ne.symm hl), hz⟩
/-- two fillings of a form that come to the same -/
theorem fl_inj {σ τ : Nat → Th} : ∀ (n : Nat) {t : Th}, PfT n t → fl σ t = fl τ t → ∀ i ∈ hs t, σ i = τ i := by
  intro n
  induction n with
  | zero => intro t h; exact h.elim
  | succ n ih =>
    intro t h e i hi
    obtain ⟨w, hd, ks, rfl, h1, h2, h3, h4, h5, h6⟩ := h
    by_cases ew : w = "hole"
    · subst ew
      obtain ⟨j, rfl, rfl⟩ := h4 rfl
      rw [fl_hole, fl_hole] at e
      rw [hs_hole, List.mem_singleton] at hi
      rw [hi]
      exact e
    · obtain ⟨k, hk, hik⟩ := (hs_nd ew).mp hi
      rw [fl_nd ew, fl_nd ew] at e
      unfold nd at e
      injection e with e
      injection e with e1 e2
      have e3 := List.append_cancel_left e2
      have := List.map_inj_left.mp e3 k hk
      exact ih (h6 k hk) this i hik
/-- a pattern and its holes -/
structure LP (q : Nat) (H : Hp) (nm sa : Addr) (T : List Str) (S : List Nat) (v : V) (p : Th) : Prop where
  N : Nms H nm T
  s : H sa = some (.lst (iv S))
  few : (iv S).length ≤ 6
  is : IsTh H v p
  pf : PfT q p
  c : cnt p ≤ 45
  hh : ∀ j, j ∈ hs p ↔ j < (iv S).length
/-- its fillings -/
structure LF (H : Hp) (fa : Addr) (B j : Nat) (ts : List Th) : Prop where
  l : ∃ ws, H fa = some (.lst ws) ∧ IsThs H ws ts
  n : ts.length = j
  ok : ∀ t ∈ ts, PfT B t ∧ cnt t ≤ 32
section
variable {H H' : Hp} {q B j : Nat} {nm sa fa : Addr} {T : List Str} {S : List Nat} {v : V} {p : Th} {ts : List Th}
theorem LP.kp (L : LP q H nm sa T S v p) (k : Kp H H') : LP q H' nm sa T S v p := ⟨L.N.kp k, k _ _ L.s (by intro kvs z; cases z), L.few, IsTh.kp k L.is, L.pf, L.c, L.hh⟩
theorem LF.kp (L : LF H fa B j ts) (k : Kp H H') : LF H' fa B j ts := by
  obtain ⟨⟨ws, a, b⟩, c, d⟩ := L
  exact ⟨⟨ws, k _ _ a (by intro kvs z; cases z), IsThs.kp k b⟩, c, d⟩
theorem LP.le {q' : Nat} (L : LP q H nm sa T S v p) (h : q ≤ q') : LP q' H nm sa T S v p := ⟨L.N, L.s, L.few, L.is, L.pf.le h, L.c, L.hh⟩
theorem LP.butl {xs : List V} (L : LP q H nm sa T S v p) (hf : H fa = some (.lst xs)) (h1 : fa ≠ nm) (h2 : fa ≠ sa) (b : But fa H H') : LP q H' nm sa T S v p :=
  ⟨⟨b _ _ L.N.a h1.symm, L.N.l1, L.N.l2, L.N.nm⟩, b _ _ L.s h2.symm, L.few, th_but hf b L.is (PfT.pl _ L.pf), L.pf, L.c, L.hh⟩
theorem LP.fm (L : LP q H nm sa T S v p) (h : q ≤ 40) : Fm H v 40 p := ⟨L.is, L.pf.le h, by have := sz_cnt _ L.pf; have := L.c; omega⟩
theorem LF.tps (L : LF H fa B j ts) : Tps (sg ts) := sg_tps fun t ht => (L.ok t ht).1.isTup
/-- the form filled, with its fillings at hand -/
theorem fill_fm {vf : V} (L : LP 7 H nm sa T S v p) (M : LF H fa 24 (iv S).length ts) (hv : IsTh H vf (fl (sg ts) p)) (hc : cnt (fl (sg ts) p) ≤ 130) : Fm H vf 40 (fl (sg ts) p) ∧ PfT 31 (fl (sg ts) p) := by
  have pf : PfT 31 (fl (sg ts) p) := fl_pf 7 L.pf fun i hi => sg_pf (m := 0) (fun t ht => (M.ok t ht).1) (by rw [M.n]; exact (L.hh i).mp hi)
  exact ⟨⟨hv, pf.le (by decide), by have := sz_cnt _ pf; omega⟩, pf⟩
theorem got_row {ga : Addr} {ws : List V} {σ : Nat → Th} (L : LP 7 H nm sa T S v p) (M : LF H fa 24 (iv S).length ts) (e : fl σ p = fl (sg ts) p) (ha : H' ga = some (.tup ws)) (hws : IsThs H' ws ((List.range (iv S).length).map σ)) : IsTh H' (.ref ga) (.tup ts) := by
  have hj := fl_inj 7 L.pf e
  have : (List.range (iv S).length).map σ = ts := by
    rw [← sg_range ts, M.n]
    exact List.map_congr_left fun i hi => hj i ((L.hh i).mpr (List.mem_range.mp hi))
  rw [← this]
  exact .tup ha hws
theorem LF.row (M : LF H fa 24 j ts) (hj : j ≤ 6) : plT (.tup ts) = true ∧ dp (.tup ts) < 40 ∧ Th.sz (.tup ts) ≤ 1000000 := by
  refine ⟨?_, ?_, ?_⟩
  · rw [plT]
    exact plTs_all fun x hx => PfT.pl _ (M.ok x hx).1
  · rw [dp]
    have := dps_le (n := 24) (a := ts) fun x hx => PfT.dp _ (M.ok x hx).1
    omega
  · have h : ∀ ts : List Th, (∀ t ∈ ts, PfT 24 t ∧ cnt t ≤ 32) → szs ts ≤ ts.length * 96 := by
      intro ts
      induction ts with
      | nil => intro _; simp [szs]
      | cons x xs ih =>
        intro hx
        have a1 := ih fun t ht => hx t (List.mem_cons_of_mem _ ht)
        have a2 := sz_cnt _ (hx x (List.mem_cons_self ..)).1
        have a3 := (hx x (List.mem_cons_self ..)).2
        rw [szs, List.length_cons, Nat.succ_mul]
        omega
    have := h ts M.ok
    have := M.n
    rw [Th.sz]
    omega
end
/-- a leaf that stands for a number -/
def own (i : Nat) : Th := nd "own" [.int (i : Nat)] []
theorem own_pf (i : Nat) : PfT 1 (own i) := ⟨"own", [.int (i : Nat)], [], rfl, Nat.le_refl _, fun v hv => (by rw [List.mem_singleton] at hv; subst hv; rfl), fun z => absurd z (by decide +kernel), fun z => absurd z (by decide +kernel), Nat.zero_le _, fun k hk => (by cases hk)⟩
theorem own_cnt (i : Nat) : cnt (own i) = 1 := by
  unfold own
  rw [cnt_nd (fun k hk => by cases hk)]
  rfl
theorem own_is {H : Hp} {p : Addr} {i : Nat} (h : H p = some (.tup [.str "own", .int (i : Nat)])) : IsTh H (.ref p) (own i) := .tup h (.cons (.at (by decide +kernel)) (.cons (.at rfl) .nil))
theorem cnt_hol (i : Nat) : cnt (hol i) = 1 := by
  unfold hol
  rw [cnt_nd (fun k hk => by cases hk)]
  rfl
def num (i : Nat) : Th := nd "num" [.int (i : Nat)] []
theorem num_fm {H : Hp} {p : Addr} {i : Nat} (h : H p = some (.tup [.str "num", .int (i : Nat)])) : Fm H (.ref p) 40 (num i) := by
  have pf : PfT 1 (num i) := ⟨"num", [.int (i : Nat)], [], rfl, Nat.le_refl _, fun v hv => (by rw [List.mem_singleton] at hv; subst hv; rfl), fun z => absurd z (by decide +kernel), fun z => absurd z (by decide +kernel), Nat.zero_le _, fun k hk => (by cases hk)⟩
  refine ⟨.tup h (.cons (.at (by decide +kernel)) (.cons (.at rfl) .nil)), pf.le (by decide), ?_⟩
  have := sz_cnt 1 pf
  have e : cnt (num i) = 1 := by
    unfold num
    rw [cnt_nd (fun k hk => by cases hk)]
    rfl
  omega
theorem num_hs (i j : Nat) : j ∈ hs (num i) ↔ j < 0 := by
  unfold num
  rw [hs_nd (by decide +kernel)]
  simp
theorem num_fl (σ : Nat → Th) : fl σ (num 1) ≠ num 2 := by
  unfold num
  rw [fl_nd (by decide +kernel)]
  unfold nd
  intro e
  injection e with e
  injection e with _ e
  injection e with e _
  injection e with e
  injection e with e
  exact absurd e (by decide)
theorem hol_fm {H : Hp} {p : Addr} {i : Nat} (h : H p = some (.tup [.str "hole", .int (i : Nat)])) : Fm H (.ref p) 40 (hol i) := by
  have := sz_cnt 1 (hol_pf i)
  have := cnt_hol i
  exact ⟨hol_is h, (hol_pf i).le (by decide), by omega⟩
theorem hol0_hs (j : Nat) : j ∈ hs (hol 0) ↔ j < 1 := by
  rw [hs_hol]
  omega
theorem hol0_fl (σ : Nat → Th) : fl σ (hol 0) = σ 0 := fl_hole
theorem own_sg {m i : Nat} (h : i < m) : cnt (sg ((List.range m).map own) i) = 1 := by
  have e : sg ((List.range m).map own) i = own i := by
    unfold sg
    rw [List.getD_eq_getElem?_getD, List.getElem?_map, List.getElem?_range h]
    rfl
  rw [e, own_cnt]
end K17

set_option Elab.async false
set_option linter.all false
set_option maxRecDepth 100000
set_option maxHeartbeats 4000000
namespace K17
open PySem L2
def spLaw (K : PySem.W.Frag) : Sp := fun vs H Q _ => ∃ (a : Addr) (ns : List Int), vs = [.ref a] ∧ SqL K H a (ns.map V.int) ∧ ns.length ≤ 63 ∧ ∀ H', Q (.bl true) H'
def rooms6 : List V := [.int 3, .int 0, .int 1, .int 6, .int 2, .int 2]
section
variable {P : Program} {w : World} {K : PySem.W.Frag} {mg : Str → Option Value} {base : Heap}
theorem scLaw : FnScope ["_law_script", "_law_feed_here", "_law_names_here", "_law_k", "_law_seen", "_law_world_here", "_law_pattern", "_law_fillings", "_law_j", "_law_form_here", "_law_leaf_here", "_law_bent_here", "_law_other"] ["_law_script"] (defScope sLaw) := ⟨rfl, rfl, rfl, by decide +kernel, rfl, by decide +kernel, by decide +kernel⟩
theorem ok_law {f fF fN fW fX fD fS fDn fTu fFi fNo fGo fSa fBe fTo : Addr} {fd dF dN dW dX dD dS dDn dTu dFi dNo dGo dSa dBe dTo : FuncData} (F : Fun K "law" "law" sLaw f fd) (U : Helpers K mg fD fS dD dS) (T0 : TxtT mg) (hlist : mg "list" = none)
    (FF : Fun K "_law_feed" "_law_feed" sFeed fF dF) (bF : Binds K dF ["_law_script"] []) (mF : mg "_law_feed" = some (.ref fF))
    (GN : FnOk P w K mg base CX0 3 fN dN ["_law_feed_here", "_law_many"] spNames) (FN : Fun K "_law_names" "_law_names" sNames fN dN) (bN : Binds K dN ["_law_feed_here", "_law_many"] []) (mN : mg "_law_names" = some (.ref fN))
    (FW : Fun K "_law_world" "_law_world" sWorld fW dW) (bW : Binds K dW ["_law_names_here", "_law_room", "_law_holes", "_law_astray"] []) (mW : mg "_law_world" = some (.ref fW))
    (GX : FnOk P w K mg base CX0 29 fX dX ["_law_feed_here", "_law_world_here", "_law_lets", "_law_below"] spFormU) (FX : Fun K "_law_form" "_law_form" sForm fX dX) (bX : Binds K dX ["_law_feed_here", "_law_world_here", "_law_lets", "_law_below"] []) (mX : mg "_law_form" = some (.ref fX))
    (GDn : FnOk P w K mg base CX0 7 fDn dDn ["_law_b", "_law_seen"] (spDense 5)) (FDn : Fun K "_law_dense" "_law_dense" sDense fDn dDn) (bDn : Binds K dDn ["_law_b", "_law_seen"] []) (mDn : mg "_law_dense" = some (.ref fDn))
    (GTu : FnOk P w K mg base CX0 8 fTu dTu ["_law_b", "_law_many"] (spTurned 6)) (FTu : Fun K "_law_turned_about" "_law_turned_about" sTurned fTu dTu) (bTu : Binds K dTu ["_law_b", "_law_many"] []) (mTu : mg "_law_turned_about" = some (.ref fTu))
    (GFi : FnOk P w K mg base CX0 9 fFi dFi ["_law_b", "_law_fillings"] (spFill 7)) (FFi : Fun K "_law_fill" "_law_fill" sFill fFi dFi) (bFi : Binds K dFi ["_law_b", "_law_fillings"] []) (mFi : mg "_law_fill" = some (.ref fFi))
    (GNo : FnOk P w K mg base CX0 33 fNo dNo ["_law_e"] (spNodes 31)) (FNo : Fun K "_law_nodes" "_law_nodes" sNodes fNo dNo) (bNo : Binds K dNo ["_law_e"] []) (mNo : mg "_law_nodes" = some (.ref fNo))
    (GGo : FnOk P w K mg base CX0 4 fGo dGo ["pattern", "other"] (spGot 40)) (FGo : Fun K "got" "got" sGot fGo dGo) (bGo : Binds K dGo ["pattern", "other"] []) (mGo : mg "got" = some (.ref fGo))
    (GSa : FnOk P w K mg base CX0 41 fSa dSa ["_law_found", "_law_due"] (spSame 40)) (FSa : Fun K "_law_same" "_law_same" sSame fSa dSa) (bSa : Binds K dSa ["_law_found", "_law_due"] []) (mSa : mg "_law_same" = some (.ref fSa))
    (GBe : FnOk P w K mg base CX0 34 fBe dBe ["_law_b", "_law_at", "_law_leaf_here"] (spBent 31 2)) (FBe : Fun K "_law_bent" "_law_bent" sBent fBe dBe) (bBe : Binds K dBe ["_law_b", "_law_at", "_law_leaf_here"] []) (mBe : mg "_law_bent" = some (.ref fBe))
    (GTo : FnOk P w K mg base CX0 46 fTo dTo ["_law_pattern", "_law_many", "_law_other"] (spTold 40)) (FTo : Fun K "_law_told" "_law_told" sTold fTo dTo) (bTo : Binds K dTo ["_law_pattern", "_law_many", "_law_other"] []) (mTo : mg "_law_told" = some (.ref fTo)) :
    FnOk P w K mg base CX0 47 f fd ["_law_script"] (spLaw K) := by
  have GF : FnOk P w K mg base CX0 1 fF dF ["_law_script"] (spFeed K) := ok_feed FF U.T
  have GD : FnOk P w K mg base CX0 1 fD dD ["_law_feed_here", "_law_many"] spDraw := ok_draw U.D U.T
  have GW : FnOk P w K mg base CX0 1 fW dW ["_law_names_here", "_law_room", "_law_holes", "_law_astray"] spWorld := ok_world FW
  refine F.ok scLaw (fun vs H Q E h => ?_) (fun cdv A outer s H vs Q E hr h => ?_)
  · obtain ⟨a, ns, rfl, _⟩ := h
    rfl
  · obtain ⟨a, ns, rfl, hS, hlen, k⟩ := h
    have hsz : sizeLine = 16777216 := sizeLine_eq
    have hu : (_ : Around).units + 1 < cLine := Nat.lt_of_le_of_lt (Nat.add_le_add_left (by decide) _) hr.units
    have hu0 := hr.units0
    have hr1 : Room 1 _ := hr.mono (by decide)
    have hr3 : Room 3 _ := hr.mono (by decide)
    have hr4 : Room 4 _ := hr.mono (by decide)
    have hr7 : Room 7 _ := hr.mono (by decide)
    have hr8 : Room 8 _ := hr.mono (by decide)
    have hr9 : Room 9 _ := hr.mono (by decide)
    have hr29 : Room 29 _ := hr.mono (by decide)
    have hr33 : Room 33 _ := hr.mono (by decide)
    have hr34 : Room 34 _ := hr.mono (by decide)
    have hr41 : Room 41 _ := hr.mono (by decide)
    have hr46 : Room 46 _ := hr.mono (by decide)
    refine' ⟨?tt, ?body, ?fin⟩
    case body =>
      refine' pss_cons ?s1 ?r1
      case s1 => exact ps_set (i := 1) scLaw.nd rfl (Or.inl rfl) (pe_call GF hr1 (by rfl) mF FF.kp bF .nil pass0 (pa_n (pv 0) pa_nil))
      case r1 =>
        refine' pss_cons ?s2 ?r2
        case s2 => exact ps_set (i := 2) scLaw.nd rfl (Or.inl rfl) (pe_call GN hr3 (by rfl) mN FN.kp bN .nil pass0 (pa_n (pv 1) (pa_k pe_int pa_nil)))
        case r2 =>
          refine' pss_cons ?s3 (pss_one ?s4)
          case s3 =>
            refine' ps_for PassesOwn.never rfl (pi_range1 (by rfl) U.T.range (pa_k pe_int pa_nil)) (pg_name (i := 3) scLaw.nd rfl (Or.inl rfl)) ?blk
            case blk =>
              refine' pss_cons ?b1 ?q1
              case b1 => exact ps_set (i := 4) scLaw.nd rfl (Or.inl rfl) (pe_lst pa_nil)
              case q1 =>
                refine' pss_cons ?b2 ?q2
                case b2 =>
                  refine' ps_set9 (i := 5) ?ha ?hb ?hc ?hd ?he ?hf
                  case ha => exact scLaw.nd
                  case hb => exact rfl
                  case hc => exact (Or.inl rfl)
                  case he => exact rfl
                  case hf => exact (.inr rfl)
                  case hd =>
                    refine' pe_call GW hr1 (by rfl) mW FW.kp bW .nil pass0 ?aa
                    case aa =>
                      refine' pa_n (pv 2) ?a1
                      case a1 =>
                        refine' pa_k pe_int ?a2
                        case a2 =>
                          refine' pa_cons ?d1 (pa_k pe_int pa_nil)
                          case d1 =>
                            refine' pe_ix ix_list ?l (pe_call GD hr1 (by rfl) U.mD U.D.kp U.bD .nil pass0 (pa_n (pv 1) (pa_k pe_int pa_nil))) (fun _ _ => rfl)
                            case l => exact @pe_consts ((cxOf CX0 P w K mg base ["_law_script", "_law_feed_here", "_law_names_here", "_law_k", "_law_seen", "_law_world_here", "_law_pattern", "_law_fillings", "_law_j", "_law_form_here", "_law_leaf_here", "_law_bent_here", "_law_other"] "law" (defScope sLaw) f cdv A outer s H E).nox) _ rooms6 (by decide +kernel)
                case q2 =>
                  refine' pss_cut ?b3 ?q3
                  case b3 => exact ps_set (i := 6) scLaw.nd rfl (Or.inl rfl) (pe_call GDn hr7 (by rfl) mDn FDn.kp bDn .nil pass0 (pa_c (pe_call GX hr29 (by rfl) mX FX.kp bX .nil pass0 (pa_n (pv 1) (pa_n (pv 5) (pa_k pe_int (pa_k pe_int pa_nil))))) (pa_n (pv 4) pa_nil)))
                  case q3 =>
                    refine' pss_cut ?b4 ?q4
                    case b4 =>
                      refine' ps_if ?c (pss_one ?e) pss_nil
                      case c => exact pt_cmpR op_eq (pe_call GD hr1 (by rfl) U.mD U.D.kp U.bD .nil pass0 (pa_n (pv 1) (pa_k pe_int pa_nil))) pe_int (nomark _)
                      case e => exact ps_set (i := 6) scLaw.nd rfl (Or.inl rfl) (pe_call GTu hr8 (by rfl) mTu FTu.kp bTu .nil pass0 (pa_n (pv 6) (pa_c (pe_callB call_len_seq (by rfl) U.T.len PySem.boot_len (pa_n (pv 4) pa_nil)) pa_nil)))
                    case q4 =>
                      refine' pss_cons ?b5 ?q5
                      case b5 => exact ps_set (i := 7) scLaw.nd rfl (Or.inl rfl) (pe_lst pa_nil)
                      case q5 =>
                        refine' pss_cut ?b6 ?q6
                        case b6 =>
                          refine' ps_for PassesOwn.never rfl (pi_range1 (by rfl) U.T.range (pa_c (pe_callB call_len_seq (by rfl) U.T.len PySem.boot_len (pa_n (pv 4) pa_nil)) pa_nil)) (pg_name (i := 8) scLaw.nd rfl (Or.inl rfl)) ?blk2
                          case blk2 =>
                            refine' pss_cons ?c1 ?p1
                            case c1 =>
                              refine' ps_set9 (i := 5) ?ha ?hb ?hc ?hd ?he ?hf
                              case ha => exact scLaw.nd
                              case hb => exact rfl
                              case hc => exact (Or.inl rfl)
                              case he => exact rfl
                              case hf => exact (.inr rfl)
                              case hd =>
                                refine' pe_call GW hr1 (by rfl) mW FW.kp bW .nil pass0 ?aa
                                case aa =>
                                  refine' pa_n (pv 2) ?a1
                                  case a1 =>
                                    refine' pa_k pe_int ?a2
                                    case a2 =>
                                      refine' pa_cons ?d1 ?a3
                                      case d1 => exact pe_ix ix_list (pe_lst (pa_k pe_int (pa_k pe_int pa_nil))) (pe_call GD hr1 (by rfl) U.mD U.D.kp U.bD .nil pass0 (pa_n (pv 1) (pa_k pe_int pa_nil))) (fun _ _ => rfl)
                                      case a3 =>
                                        refine' pa_cons ?d2 pa_nil
                                        case d2 => exact pe_ix ix_list (pe_lst (pa_k pe_int (pa_k pe_int pa_nil))) (pe_call GD hr1 (by rfl) U.mD U.D.kp U.bD .nil pass0 (pa_n (pv 1) (pa_k pe_int pa_nil))) (fun _ _ => rfl)
                            case p1 =>
                              refine' pss_cons ?c2 (pss_one ?c3)
                              case c2 => exact ps_dput hu (pv 5) pe_str (pe_callTy call_list_of (by rfl) hlist (by decide +kernel) (pa_n (pv 7) pa_nil)) rfl
                              case c3 => exact ps_expr (pe_bm PySem.F.plainAttrs_list PySem.F.slot_list_append PySem.F.type_list_append mt_append (pv 7) (pa_c (pe_call GX hr29 (by rfl) mX FX.kp bX .nil pass0 (pa_n (pv 1) (pa_n (pv 5) (pa_k pe_int (pa_k pe_int pa_nil))))) pa_nil))
                        case q6 =>
                          refine' pss_cut ?b7 ?q7
                          case b7 =>
                            refine' ps_if ?c (pss_one ?e) pss_nil
                            case c => exact pt_cmpR op_gt (pe_call GNo hr33 (by rfl) mNo FNo.kp bNo .nil pass0 (pa_c (pe_call GFi hr9 (by rfl) mFi FFi.kp bFi .nil pass0 (pa_n (pv 6) (pa_n (pv 7) pa_nil))) pa_nil)) pe_int (nomark _)
                            case e =>
                              refine' ps_setComp (i := 7) (N' := ["_law_j"]) (src := [none]) ?k1 ?k2 ?k3 ?k4 ?k5 ?k6 ?k7
                              case k1 => rfl
                              case k2 => exact scLaw.nd
                              case k3 => rfl
                              case k4 => exact Or.inl rfl
                              case k5 => exact compScope_of (defScope sLaw) rfl ["_law_script", "_law_feed_here", "_law_names_here", "_law_k", "_law_seen", "_law_world_here", "_law_pattern", "_law_fillings", "_law_j", "_law_form_here", "_law_leaf_here", "_law_bent_here", "_law_other"] rfl (by decide +kernel)
                              case k6 => exact pi_range1 (by rfl) U.T.range (pa_c (pe_callB call_len_seq (by rfl) U.T.len PySem.boot_len (pa_n (pv 4) pa_nil)) pa_nil)
                              case k7 => exact fun cl C ex s0 H0 => ⟨pg_name (i := 0) (nd1 _) rfl (Or.inl rfl), pts_nil, pe_tup (pa_k pe_str (pa_n (pv 0) pa_nil))⟩
                          case q7 =>
                            refine' pss_cut ?b8 ?q8
                            case b8 => exact ps_set (i := 9) scLaw.nd rfl (Or.inl rfl) (pe_call GFi hr9 (by rfl) mFi FFi.kp bFi .nil pass0 (pa_n (pv 6) (pa_n (pv 7) pa_nil)))
                            case q8 =>
                              refine' pss_cut ?b9 ?q9
                              case b9 =>
                                refine' ps_if ?c (pss_one (ps_ret pe_bl)) pss_nil
                                case c => exact pt_not (pt_val (pe_call GSa hr41 (by rfl) mSa FSa.kp bSa .nil pass0 (pa_c (pe_call GGo hr4 (by rfl) mGo FGo.kp bGo .nil pass0 (pa_n (pv 6) (pa_n (pv 9) pa_nil))) (pa_c (pe_callTy call_tuple_of (by rfl) T0.tup (by decide +kernel) (pa_n (pv 7) pa_nil)) pa_nil))))
                              case q9 =>
                                refine' pss_cut ?b10 ?q10
                                case b10 =>
                                  refine' ps_for PassesOwn.never rfl (pi_range1 (by rfl) U.T.range (pa_k pe_int pa_nil)) (pg_name (i := 8) scLaw.nd rfl (Or.inl rfl)) ?blk3
                                  case blk3 =>
                                    refine' pss_cut ?c1 ?p1
                                    case c1 => exact ps_set (i := 10) scLaw.nd rfl (Or.inl rfl) (pe_call GX hr29 (by rfl) mX FX.kp bX .nil pass0 (pa_n (pv 1) (pa_c (pe_call GW hr1 (by rfl) mW FW.kp bW .nil pass0 (pa_n (pv 2) (pa_k pe_int (pa_k pe_int (pa_k pe_int pa_nil))))) (pa_k pe_int (pa_k pe_int pa_nil)))))
                                    case p1 =>
                                      refine' pss_cut ?c2 (pss_one ?c3)
                                      case c2 => exact ps_set (i := 11) scLaw.nd rfl (Or.inl rfl) (pe_call GBe hr34 (by rfl) mBe FBe.kp bBe .nil pass0 (pa_n (pv 9) (pa_c (pe_call GD hr1 (by rfl) U.mD U.D.kp U.bD .nil pass0 (pa_n (pv 1) (pa_c (pe_call GNo hr33 (by rfl) mNo FNo.kp bNo .nil pass0 (pa_n (pv 9) pa_nil)) pa_nil))) (pa_n (pv 10) pa_nil))))
                                      case c3 =>
                                        refine' ps_if ?c (pss_one (ps_ret pe_bl)) pss_nil
                                        case c => exact pt_not (pt_val (pe_call GTo hr46 (by rfl) mTo FTo.kp bTo .nil pass0 (pa_n (pv 6) (pa_c (pe_callB call_len_seq (by rfl) U.T.len PySem.boot_len (pa_n (pv 4) pa_nil)) (pa_n (pv 11) pa_nil)))))
                                case q10 =>
                                  refine' pss_cut ?b11 ?q11
                                  case b11 => exact ps_set (i := 12) scLaw.nd rfl (Or.inl rfl) (pe_call GX hr29 (by rfl) mX FX.kp bX .nil pass0 (pa_n (pv 1) (pa_c (pe_call GW hr1 (by rfl) mW FW.kp bW .nil pass0 (pa_n (pv 2) (pa_k pe_int (pa_k pe_int (pa_k pe_int pa_nil))))) (pa_k pe_int (pa_k pe_int pa_nil)))))
                                  case q11 =>
                                    refine' pss_cut ?b12 (pss_one ?b13)
                                    case b12 =>
                                      refine' ps_if ?c (pss_one (ps_ret pe_bl)) pss_nil
                                      case c => exact (pw_or (pt_not (pt_val (pe_call GTo hr46 (by rfl) mTo FTo.kp bTo .nil pass0 (pa_n (pv 6) (pa_c (pe_callB call_len_seq (by rfl) U.T.len PySem.boot_len (pa_n (pv 4) pa_nil)) (pa_n (pv 12) pa_nil)))))) (pw_or1 (pt_not (pt_val (pe_call GTo hr46 (by rfl) mTo FTo.kp bTo .nil pass0 (pa_n (pv 6) (pa_c (pe_callB call_len_seq (by rfl) U.T.len PySem.boot_len (pa_n (pv 4) pa_nil)) (pa_n (pv 6) pa_nil)))))))).pt
                                    case b13 =>
                                      refine' ps_if ?c (pss_one (ps_ret pe_bl)) pss_nil
                                      case c => exact pt_not (pt_val (pe_call GSa hr41 (by rfl) mSa FSa.kp bSa .nil pass0 (pa_c (pe_call GGo hr4 (by rfl) mGo FGo.kp bGo .nil pass0 (pa_n (pv 6) (pa_n (pv 9) pa_nil))) (pa_c (pe_callTy call_tuple_of (by rfl) T0.tup (by decide +kernel) (pa_n (pv 7) pa_nil)) pa_nil))))
          case s4 =>
            refine' ps_ret ?r
            case r =>
              refine' pe_and ?x (pe_one ?y)
              case x => exact pe_cmp (pc_isN (pe_call GGo hr4 (by rfl) mGo FGo.kp bGo .nil pass0 (pa_t (pe_tup (pa_k pe_str (pa_k pe_int pa_nil))) (pa_t (pe_tup (pa_k pe_str (pa_k pe_int pa_nil))) pa_nil)))) (nomark _)
              case y => exact pe_call GSa hr41 (by rfl) mSa FSa.kp bSa .nil pass0 (pa_c (pe_call GGo hr4 (by rfl) mGo FGo.kp bGo .nil pass0 (pa_t (pe_tup (pa_k pe_str (pa_k pe_int pa_nil))) (pa_t (pe_tup (pa_k pe_str (pa_k pe_int pa_nil))) pa_nil))) (pa_t (pe_tup (pa_t (pe_tup (pa_k pe_str (pa_k pe_int pa_nil))) pa_nil)) pa_nil))
    case fin =>
      refine ⟨_, rfl, a, ns, rfl, hS, hlen, fun d l H1 F1 hd1 s1 => ?_⟩
      refine ⟨_, rfl, d, l, ns, 0, 3, rfl, F1, Nat.zero_le _, by decide, by decide, fun nm T n1 H2 hnm L2 hT hTn hn1 F2 b2 => ?_⟩
      have N2 : Nms H2 nm T := ⟨L2, by omega, by omega, hTn⟩
      have hn1 : n1 ≤ 24 := hn1
      refine ⟨5, rfl, by decide, by decide, for_range (lo := 0) (n := 5) (fun i σ H' => ∃ (n' : Nat) (o3 o4 o5 o6 o7 o8 o9 o10 o11 o12 : Option V), σ = [some (.ref a), some (.ref d), some (.ref nm), o3, o4, o5, o6, o7, o8, o9, o10, o11, o12] ∧ n' ≤ 24 + i * 10000000 ∧ Feed H' d l ns n' ∧ Nms H' nm T)
        ⟨n1, none, none, none, none, none, none, none, none, none, none, rfl, Nat.le_trans hn1 (Nat.le_add_right _ _), F2, N2⟩ ?_ ?_⟩
      · rintro i σ H3 hi ⟨n3, o3, o4, o5, o6, o7, o8, o9, o10, o11, o12, rfl, hn3, F3, N3⟩
        have hb3 : n3 ≤ 50000024 := by omega
        refine ⟨Nat.zero_le _, fun sa hsa => ?_⟩
        have sS := same_upd (o := .lst []) hsa
        have hsn : sa ≠ nm := (ne_of_none N3.a hsa).symm
        have hsl : sa ≠ l := (ne_of_none F3.ls hsa).symm
        refine ⟨_, rfl, (by show 6 ≤ sizeLine; decide), fun q hq => ?_⟩
        have sQ := same_upd (o := .lst rooms6) hq
        have F4 := (F3.same sS).same sQ
        refine ⟨_, rfl, d, l, ns, n3, _, rfl, F4, Nat.le_trans hb3 (by decide), by decide, by decide, fun i5 n5 H5 i50 i51 hn5 F5 b5 => ?_⟩
        obtain ⟨x, hx, hat⟩ := at_in (xs := rooms6) (i := i5) i50 i51
        have hz : ∃ z : Int, x = .int z ∧ 0 ≤ z ∧ z ≤ 6 := by
          unfold rooms6 at hx
          simp only [List.mem_cons, List.not_mem_nil, or_false] at hx
          rcases hx with rfl | rfl | rfl | rfl | rfl | rfl <;> exact ⟨_, rfl, by decide, by decide⟩
        obtain ⟨z, rfl, z0, z1⟩ := hz
        have k5 := b5.kp F4
        refine ⟨q, rooms6, i5, .int z, rfl, rfl, SqL.of (F4.lst b5 upd_same), hat, nm, 16, z, 0, rfl, fun wd bg H6 s6 hwd hbg W6 B6 => ?_⟩
        have kA : Kp (upd H3 sa (.lst [])) H6 := ((Kp.of sQ).trans k5).trans (Kp.of s6)
        have S6 : H6 sa = some (.lst (iv [])) := kA _ _ upd_same (by intro kvs w; cases w)
        have N6 : Nms H6 nm T := (N3.kp (Kp.of sS)).kp kA
        have F6 := F5.same s6
        clear F4 F5 b5 k5 kA s6 hq sQ hat hx
        refine ⟨fun σ' H' => ∃ (S : List Nat) (v : V) (p : Th) (n' : Nat), σ' = [some (.ref a), some (.ref d), some (.ref nm), some (.int (0 + i)), some (.ref sa), some (.ref wd), some v, o7, o8, o9, o10, o11, o12] ∧ LP 6 H' nm sa T S v p ∧ n' ≤ n3 + 50000 ∧ Feed H' d l ns n', ?_, ?_⟩
        · refine ⟨_, rfl, _, rfl, use_form 0 5 F6 W6 N6 ⟨⟨[], B6, .nil⟩, by decide, fun t ht => (by cases ht)⟩ (nb hn5 hb3) z1 (by decide) (by decide) (by decide) (by decide) (by decide) (by decide) rfl fun v t n7 H7 hv pf hc hh hn7 F7 k7 => ?_⟩
          have S7 := k7 _ _ S6 (by intro kvs w; cases w)
          refine ⟨_, rfl, v, sa, t, [], rfl, hv, pf, S7, List.nodup_nil, fun i hi => (by cases hi), fun i hi => Nat.lt_trans (hh rfl i hi) (by decide), fun v' R H8 b8 L8 nd8 h1 h2 is8 => ?_⟩
          rw [List.nil_append] at L8 nd8 h1 is8
          have hR : R.length ≤ 6 := few nd8 fun i hi => hh rfl i (h2 i hi)
          have hl : (iv R).length = R.length := List.length_map ..
          have N7 := N6.kp k7
          refine ⟨R, v', fl (ix R) t, n7, rfl, ⟨⟨b8 _ _ N7.a hsn.symm, N7.l1, N7.l2, N7.nm⟩, L8, hl ▸ hR, is8, fl_pf 5 pf fun i _ => ix_pf R i, ?_, fun j => ?_⟩, nt hn7 hn5, F7.butl S7 hsl b8⟩
          · rw [cnt_fl (fun i => (ix_pf R i).isTup) 5 pf fun i _ => ?_]
            · exact c45 hc
            · exact cnt_hol _
          · rw [hl]
            exact dense_holes pf nd8 h1 h2 j
        clear F6 N6 S6 W6 B6
        rintro σ8 H8 ⟨S, v8, p8, n8, rfl, P8, hn8, F8⟩
        refine ⟨fun σ' H' => ∃ (v : V) (p : Th) (n' : Nat), σ' = [some (.ref a), some (.ref d), some (.ref nm), some (.int (0 + i)), some (.ref sa), some (.ref wd), some v, o7, o8, o9, o10, o11, o12] ∧ LP 7 H' nm sa T S v p ∧ n' ≤ n3 + 50001 ∧ Feed H' d l ns n', ?_, ?_⟩
        · refine ⟨_, rfl, d, l, ns, n8, _, rfl, F8, nb hn8 hb3, by decide, by decide, fun i9 n9 H9 i90 i91 hn9 F9 b9 => ?_⟩
          have P9 := P8.kp (b9.kp F8)
          refine ⟨rfl, _, rfl, ite2 (fun g => ?_) (fun g => ⟨v8, p8, n9, rfl, P9.le (by decide), nt hn9 hn8, F9⟩)⟩
          refine ⟨_, rfl, _, rfl, sa, iv S, rfl, .inl (SqL.of P9.s), v8, (iv S).length, p8, rfl, P9.is, P9.pf, fun i hi => (P9.hh i).mp hi, fun v' H10 s10 is10 => ?_⟩
          have P10 := P9.kp (Kp.of s10)
          refine ⟨v', _, n9, rfl, ⟨P10.N, P10.s, P10.few, is10, fl_pf 6 P10.pf fun i _ => hol_pf _, ?_, fun j => turned_holes P10.pf P10.hh j⟩, nt hn9 hn8, F9.same s10⟩
          rw [cnt_fl (fun i => (hol_pf _).isTup) 6 P10.pf fun i _ => ?_]
          · exact P10.c
          · exact cnt_hol _
        clear P8 F8
        rintro σ9 H9 ⟨v, p, n9, rfl, P9, hn9, F9⟩
        refine ⟨Nat.zero_le _, fun fa hfa => ?_⟩
        have sF := same_upd (o := .lst []) hfa
        have hfn : fa ≠ nm := (ne_of_none P9.N.a hfa).symm
        have hfs : fa ≠ sa := (ne_of_none P9.s hfa).symm
        have hfl : fa ≠ l := (ne_of_none F9.ls hfa).symm
        have P10 := P9.kp (Kp.of sF)
        have F10 := F9.same sF
        have hfew := P9.few
        have h64 : (iv S).length < 64 := Nat.lt_of_le_of_lt hfew (by decide)
        have L10 : LF (upd H9 fa (.lst [])) fa (4 * 0) 0 [] := ⟨⟨[], upd_same, .nil⟩, rfl, fun t ht => (by cases ht)⟩
        generalize upd H9 fa (.lst []) = H10 at P10 F10 L10 ⊢
        clear P9 F9 sF hfa
        refine ⟨fun σ' H' => ∃ (ts : List Th) (n' : Nat) (o5 o8 : Option V), σ' = [some (.ref a), some (.ref d), some (.ref nm), some (.int (0 + i)), some (.ref sa), o5, some v, some (.ref fa), o8, o9, o10, o11, o12] ∧ LP 7 H' nm sa T S v p ∧ LF H' fa 24 (iv S).length ts ∧ n' ≤ n3 + 500000 ∧ Feed H' d l ns n', ?_, ?_⟩
        · refine ⟨_, rfl, sa, iv S, rfl, .inl (SqL.of P10.s), _, rfl, by omega, by omega, for_range (lo := 0) (n := (iv S).length) (fun j σ H' => ∃ (ts : List Th) (n' : Nat) (o5 o8 : Option V), σ = [some (.ref a), some (.ref d), some (.ref nm), some (.int (0 + i)), some (.ref sa), o5, some v, some (.ref fa), o8, o9, o10, o11, o12] ∧ LP 7 H' nm sa T S v p ∧ LF H' fa (4 * j) j ts ∧ n' ≤ n3 + 50001 + j * 46652 ∧ Feed H' d l ns n')
            ⟨[], n9, _, _, rfl, P10, L10, by omega, F10⟩ ?_ ?_⟩
          · rintro j σ H11 hj ⟨ts, n11, o5, o8, rfl, P11, L11, hn11, F11⟩
            have hj5 : j ≤ 5 := by omega
            have hm11 : n11 ≤ n3 + 400000 := by omega
            refine ⟨_, rfl, (by show 2 ≤ sizeLine; decide), fun q1 hq1 => ?_⟩
            have s1 := same_upd (o := .lst [.int 0, .int 3]) hq1
            have F12 := F11.same s1
            refine ⟨_, rfl, d, l, ns, n11, _, rfl, F12, nb hm11 hb3, by decide, by decide, fun i12 n12 H12 i120 i121 hn12 F13 b13 => ?_⟩
            have k13 := b13.kp F12
            obtain ⟨x, hx, hat⟩ := at_in (xs := ([.int 0, .int 3] : List V)) (i := i12) i120 i121
            have hz : ∃ z : Int, x = .int z ∧ z ≤ 6 := by
              simp only [List.mem_cons, List.not_mem_nil, or_false] at hx
              rcases hx with rfl | rfl <;> exact ⟨_, rfl, by decide⟩
            obtain ⟨z, rfl, z1⟩ := hz
            refine ⟨q1, _, i12, .int z, rfl, rfl, SqL.of (F12.lst b13 upd_same), hat, (by show 2 ≤ sizeLine; decide), fun q2 hq2 => ?_⟩
            have s2 := same_upd (o := .lst [.int 0, .int 2]) hq2
            have F14 := F13.same s2
            refine ⟨_, rfl, d, l, ns, n12, _, rfl, F14, nb (nt hn12 hm11 : n12 ≤ n3 + 400001) hb3, by decide, by decide, fun i14 n14 H14 i140 i141 hn14 F15 b15 => ?_⟩
            have k15 := b15.kp F14
            obtain ⟨y, hy, hay⟩ := at_in (xs := ([.int 0, .int 2] : List V)) (i := i14) i140 i141
            have hw : ∃ z : Int, y = .int z ∧ 0 ≤ z ∧ z ≤ 2 := by
              simp only [List.mem_cons, List.not_mem_nil, or_false] at hy
              rcases hy with rfl | rfl <;> exact ⟨_, rfl, by decide, by decide⟩
            obtain ⟨y, rfl, y0, y1⟩ := hw
            refine ⟨q2, _, i14, .int y, rfl, rfl, SqL.of (F14.lst b15 upd_same), hay, nm, 9, z, y, rfl, fun w2 bg2 H16 s16 hw2 hbg2 W16 B16 => ?_⟩
            have kA : Kp H11 H16 := ((((Kp.of s1).trans k13).trans (Kp.of s2)).trans k15).trans (Kp.of s16)
            have P16 := P11.kp kA
            have L16 := L11.kp kA
            have F16 := F15.same s16
            clear F12 F13 F14 F15 b13 b15 k13 k15 s1 s2 s16 kA hat hay hx hy hq1 hq2 P11 L11 F11
            obtain ⟨⟨ws, la, lb⟩, ln, lo⟩ := L16
            refine ⟨_, rfl, fa, ws, rfl, .inl (SqL.of la), fun bq hbq => ?_⟩
            have s17 := same_upd (o := .lst ws) hbq
            have W17 := s17 _ _ W16
            refine ⟨_, rfl, w2, _, rfl, wset_bag W17, ?_⟩
            have k18 := kp_dk (kvs' := worldKV nm 9 z y bq) W17
            have kB := (Kp.of s17).trans k18
            have P18 := P16.kp kB
            have la18 := kB _ _ la (by intro kvs w; cases w)
            have lb18 := IsThs.kp kB lb
            have F17 := F16.same s17
            have F18 : Feed (upd (upd H16 bq (.lst ws)) w2 (.dK (worldKV nm 9 z y bq))) d l ns n14 := by
              have hne := world_ne F17 W17
              obtain ⟨⟨z, hd⟩, hl, hs⟩ := F17
              exact ⟨⟨z, by rw [upd_ne hne.symm]; exact hd⟩, k18 _ _ hl (by intro kvs w; cases w), hs⟩
            have G18 : Bag (upd (upd H16 bq (.lst ws)) w2 (.dK (worldKV nm 9 z y bq))) bq (4 * j) ts := ⟨⟨ws, k18 _ _ upd_same (by intro kvs w; cases w), lb18⟩, ln ▸ Nat.le_trans hj5 (by decide), fun t ht => ⟨(lo t ht).1, Nat.le_trans (lo t ht).2 (by decide)⟩⟩
            refine ⟨_, rfl, .inl ⟨rfl, _, SqL.of la18⟩, _, rfl, _, rfl, use_form (4 * j) 4 F18 upd_same P18.N G18 (nb (nt hn14 (nt hn12 hm11 : n12 ≤ n3 + 400001) : n14 ≤ n3 + 400002) hb3) z1 y0 y1 (Nat.mul_le_mul_left 4 hj5) (by decide) (by decide) (by decide) rfl fun v19 t19 n19 H19 hv pf hc _ hn19 F19 k19 => ?_⟩
            have la19 := k19 _ _ la18 (by intro kvs w; cases w)
            have lb19 := IsThs.kp k19 lb18
            have hwl := IsThs.len _ lb19
            have bu : But fa H19 (upd H19 fa (.lst (ws ++ [v19]))) := but_upd
            refine ⟨fa, ws, v19, rfl, rfl, la19, by omega, ?_⟩
            refine ⟨ts ++ [t19], n19, _, _, rfl, (P18.kp k19).butl la19 hfn hfs bu, ⟨⟨ws ++ [v19], upd_same, IsThs.app _ (ths_but la19 bu lb19 (plTs_all fun x hx => PfT.pl _ (lo x hx).1)) (.cons (th_but la19 bu hv (PfT.pl _ pf)) .nil)⟩, by rw [List.length_append, ln]; rfl, fun t ht => ?_⟩, by rw [Nat.succ_mul]; omega, F19.butl la19 hfl bu⟩
            rcases List.mem_append.mp ht with q | q
            · exact ⟨(lo t q).1.le (Nat.mul_le_mul_left 4 (Nat.le_succ j)), (lo t q).2⟩
            · rw [List.mem_singleton.mp q]
              exact ⟨pf.le (by omega), c32 hc⟩
          · rintro σ H11 ⟨ts, n11, o5, o8, rfl, P11, L11, hn11, F11⟩
            exact ⟨ts, n11, o5, o8, rfl, P11, ⟨L11.l, L11.n, fun t ht => ⟨(L11.ok t ht).1.le (Nat.mul_le_mul_left 4 hfew), (L11.ok t ht).2⟩⟩, by omega, F11⟩
        clear P10 F10 L10
        rintro σ11 H11 ⟨ts0, n11, o5, o8, rfl, P11, L11, hn11, F11⟩
        refine ⟨fun σ' H' => ∃ (fa : Addr) (ts : List Th), σ' = [some (.ref a), some (.ref d), some (.ref nm), some (.int (0 + i)), some (.ref sa), o5, some v, some (.ref fa), o8, o9, o10, o11, o12] ∧ LP 7 H' nm sa T S v p ∧ LF H' fa 24 (iv S).length ts ∧ cnt (fl (sg ts) p) ≤ 130 ∧ Feed H' d l ns n11, ?_, ?_⟩
        · obtain ⟨ws, la, lb⟩ := L11.l
          refine ⟨_, rfl, _, rfl, v, fa, p, ws, ts0, rfl, P11.is, P11.pf, .inr la, lb, fun i hi => by rw [L11.n]; exact (P11.hh i).mp hi, fun v' H12 s12 is12 => ?_⟩
          have pf12 : PfT 31 (fl (sg ts0) p) := fl_pf 7 P11.pf fun i hi => sg_pf (m := 0) (fun t ht => (L11.ok t ht).1) (by rw [L11.n]; exact (P11.hh i).mp hi)
          refine ⟨v', _, rfl, is12, pf12, fun H13 s13 => ?_⟩
          have sA := s12.trans s13
          have P13 := P11.kp (Kp.of sA)
          refine ⟨_, _, rfl, rfl, _, rfl, ite2 (fun g => ?_) (fun g => ⟨fa, ts0, rfl, P13, L11.kp (Kp.of sA), ?_, F11.same sA⟩)⟩
          · refine ⟨_, rfl, sa, iv S, rfl, .inl (SqL.of P13.s), _, rfl, by omega, by omega, comp_range (lo := 0) (n := (iv S).length) (fun j ys σc H' => ∃ (o : Option V), σc = [o] ∧ Same H13 H' ∧ ys.length = j ∧ IsThs H' ys ((List.range j).map own))
              ⟨none, rfl, fun _ _ e => e, rfl, .nil⟩ ?_ ?_⟩
            · rintro j ys σc H' hj ⟨o, rfl, sH, hyl, hys⟩
              refine ⟨by omega, _, rfl, (by show 2 ≤ sizeLine; decide), fun t ht => nx hj ⟨_, rfl, ?_⟩⟩
              have st := same_upd (o := .tup [.str "own", .int (0 + j)]) ht
              refine ⟨sH.trans st, by rw [List.length_append, hyl]; rfl, ?_⟩
              rw [List.range_succ, List.map_append]
              refine IsThs.app _ (IsThs.kp (Kp.of st) hys) (.cons (own_is ?_) .nil)
              rw [upd_same, Int.zero_add]
            · rintro ys σc H' ⟨o, rfl, sH, hyl, hys⟩ q hq
              have sq := same_upd (o := .lst ys) hq
              have sB := sH.trans sq
              refine ⟨q, (List.range (iv S).length).map own, rfl, P13.kp (Kp.of sB), ⟨⟨ys, upd_same, IsThs.kp (Kp.of sq) hys⟩, by rw [List.length_map, List.length_range], fun t ht => ?_⟩, ?_, (F11.same sA).same sB⟩
              · obtain ⟨j, _, rfl⟩ := List.mem_map.mp ht
                exact ⟨(own_pf j).le (by decide), by rw [own_cnt]; decide⟩
              · have hc := P13.c
                rw [cnt_fl (sg_tps fun t ht => ?_) 7 P13.pf fun i hi => ?_]
                · exact Nat.le_trans hc (by decide)
                · obtain ⟨j, _, rfl⟩ := List.mem_map.mp ht
                  exact (own_pf j).isTup
                · exact own_sg ((P13.hh i).mp hi)
          · have : ¬ ((cnt (fl (sg ts0) p) : Nat) : Int) > 130 := fun q => g (by simpa using q)
            omega
        clear P11 L11 F11
        rintro σ13 H13 ⟨fb, ts, rfl, P13, L13, hc13, F13⟩
        refine ⟨fun σ' H' => ∃ (vf : V), σ' = [some (.ref a), some (.ref d), some (.ref nm), some (.int (0 + i)), some (.ref sa), o5, some v, some (.ref fb), o8, some vf, o10, o11, o12] ∧ LP 7 H' nm sa T S v p ∧ LF H' fb 24 (iv S).length ts ∧ IsTh H' vf (fl (sg ts) p) ∧ Feed H' d l ns n11, ?_, ?_⟩
        · obtain ⟨ws, la, lb⟩ := L13.l
          refine ⟨_, rfl, _, rfl, v, fb, p, ws, ts, rfl, P13.is, P13.pf, .inr la, lb, fun i hi => by rw [L13.n]; exact (P13.hh i).mp hi, fun v' H14 s14 is14 => ⟨v', rfl, P13.kp (Kp.of s14), L13.kp (Kp.of s14), is14, F13.same s14⟩⟩
        clear P13 L13 F13
        rintro σ14 H14 ⟨vf, rfl, P14, L14, I14, F14⟩
        refine ⟨fun σ' H' => σ' = [some (.ref a), some (.ref d), some (.ref nm), some (.int (0 + i)), some (.ref sa), o5, some v, some (.ref fb), o8, some vf, o10, o11, o12] ∧ LP 7 H' nm sa T S v p ∧ LF H' fb 24 (iv S).length ts ∧ IsTh H' vf (fl (sg ts) p) ∧ Feed H' d l ns n11, ?_, ?_⟩
        · refine ⟨_, rfl, _, rfl, v, vf, p, _, (iv S).length, rfl, P14.fm (by decide), (fill_fm P14 L14 I14 hc13).1, h64, P14.hh, fun no => absurd rfl (no _ L14.tps), fun σ hσ e ga ws H15 s15 ha hws => ?_⟩
          have is15 := got_row P14 L14 e ha hws
          clear hws ha e hσ
          have L15 := L14.kp (Kp.of s15)
          obtain ⟨ws, la, lb⟩ := L15.l
          refine ⟨_, rfl, fb, ws, rfl, .inl ⟨SqL.of la, fun tp htp => ?_⟩⟩
          have st := same_upd (o := .tup ws) htp
          obtain ⟨r1, r2, r3⟩ := L15.row hfew
          refine ⟨.ref ga, .ref tp, .tup ts, rfl, IsTh.kp (Kp.of st) is15, .tup upd_same (IsThs.kp (Kp.of st) lb), r1, r2, r3, fun H16 s16 => ⟨_, rfl, iteF ?_⟩⟩
          have sA := (s15.trans st).trans s16
          exact ⟨rfl, P14.kp (Kp.of sA), L14.kp (Kp.of sA), IsTh.kp (Kp.of sA) I14, F14.same sA⟩
        clear P14 L14 I14 F14
        rintro σ15 H15 ⟨rfl, P15, L15, I15, F15⟩
        refine ⟨fun σ' H' => ∃ (n' : Nat) (o8 o10 o11 : Option V), σ' = [some (.ref a), some (.ref d), some (.ref nm), some (.int (0 + i)), some (.ref sa), o5, some v, some (.ref fb), o8, some vf, o10, o11, o12] ∧ LP 7 H' nm sa T S v p ∧ LF H' fb 24 (iv S).length ts ∧ IsTh H' vf (fl (sg ts) p) ∧ n' ≤ n3 + 800000 ∧ Feed H' d l ns n', ?_, ?_⟩
        · refine ⟨4, rfl, by decide, by decide, for_range (lo := 0) (n := 4) (fun j σ H' => ∃ (n' : Nat) (o8 o10 o11 : Option V), σ = [some (.ref a), some (.ref d), some (.ref nm), some (.int (0 + i)), some (.ref sa), o5, some v, some (.ref fb), o8, some vf, o10, o11, o12] ∧ LP 7 H' nm sa T S v p ∧ LF H' fb 24 (iv S).length ts ∧ IsTh H' vf (fl (sg ts) p) ∧ n' ≤ n3 + 500000 + j * 50000 ∧ Feed H' d l ns n')
            ⟨n11, _, _, _, rfl, P15, L15, I15, hn11, F15⟩ ?_ ?_⟩
          · rintro j σ H16 hj ⟨n16, o8, o10, o11, rfl, P16, L16, I16, hn16, F16⟩
            have hm16 : n16 ≤ n3 + 700000 := by omega
            refine ⟨fun σ' H' => ∃ (n' : Nat) (vl : V) (t : Th), σ' = [some (.ref a), some (.ref d), some (.ref nm), some (.int (0 + i)), some (.ref sa), o5, some v, some (.ref fb), some (.int (0 + j)), some vf, some vl, o11, o12] ∧ LP 7 H' nm sa T S v p ∧ LF H' fb 24 (iv S).length ts ∧ IsTh H' vf (fl (sg ts) p) ∧ IsTh H' vl t ∧ PfT 2 t ∧ cnt t ≤ 19 ∧ n' ≤ n16 + 46650 ∧ Feed H' d l ns n', ?_, ?_⟩
            · refine ⟨_, rfl, _, rfl, nm, 8, 3, 1, rfl, fun w2 bg2 H17 s17 hw2 hbg2 W17 B17 => use_form 0 2 (F16.same s17) W17 (P16.N.kp (Kp.of s17)) ⟨⟨[], B17, .nil⟩, by decide, fun t ht => (by cases ht)⟩ (nb hm16 hb3) (by decide) (by decide) (by decide) (by decide) (by decide) (by decide) (by decide) rfl fun v18 t18 n18 H18 hv pf hc _ hn18 F18 k18 => ?_⟩
              have kA := (Kp.of s17).trans k18
              exact ⟨n18, v18, t18, rfl, P16.kp kA, L16.kp kA, IsTh.kp kA I16, hv, pf, c19 hc, hn18, F18⟩
            clear P16 L16 I16 F16
            rintro σ17 H17 ⟨n17, vl, t17, rfl, P17, L17, I17, J17, pf17, ct17, hn17, F17⟩
            obtain ⟨fm17, fp17⟩ := fill_fm P17 L17 I17 hc13
            refine ⟨fun σ' H' => ∃ (n' : Nat) (vb : V) (t : Th), σ' = [some (.ref a), some (.ref d), some (.ref nm), some (.int (0 + i)), some (.ref sa), o5, some v, some (.ref fb), some (.int (0 + j)), some vf, some vl, some vb, o12] ∧ LP 7 H' nm sa T S v p ∧ LF H' fb 24 (iv S).length ts ∧ IsTh H' vf (fl (sg ts) p) ∧ Fm H' vb 40 t ∧ n' ≤ n16 + 46651 ∧ Feed H' d l ns n', ?_, ?_⟩
            · refine ⟨_, rfl, _, rfl, _, rfl, vf, _, rfl, I17, fp17, fun H18 s18 => ?_⟩
              have c1 := cnt_pf fp17
              have F18 := F17.same s18
              refine ⟨d, l, ns, n17, _, rfl, F18, nb (nt hn17 hm16 : n17 ≤ n3 + 800000) hb3, by omega, by omega, fun i19 n19 H19 _ _ hn19 F19 b19 => ?_⟩
              have kA := (Kp.of s18).trans (b19.kp F18)
              refine ⟨_, rfl, vf, vl, i19, _, t17, rfl, IsTh.kp kA I17, fp17, IsTh.kp kA J17, pf17, fun v' t' H20 s20 is20 pf20 sz20 => ?_⟩
              have kB := kA.trans (Kp.of s20)
              refine ⟨n19, v', t', rfl, P17.kp kB, L17.kp kB, IsTh.kp kB I17, ⟨is20, pf20.le (by decide), sz_bent fp17 pf17 hc13 ct17 sz20⟩, nt hn19 hn17, F19.same s20⟩
            clear P17 L17 I17 J17 F17 fm17
            rintro σ18 H18 ⟨n18, vb, t18, rfl, P18, L18, I18, M18, hn18, F18⟩
            refine ⟨_, rfl, _, rfl, sa, iv S, rfl, .inl (SqL.of P18.s), _, rfl, v, vb, p, t18, (iv S).length, rfl, P18.fm (by decide), M18, h64, P18.hh, fun H19 s19 => ⟨_, rfl, iteF ?_⟩⟩
            exact ⟨n18, _, _, _, rfl, P18.kp (Kp.of s19), L18.kp (Kp.of s19), IsTh.kp (Kp.of s19) I18, by rw [Nat.succ_mul]; omega, F18.same s19⟩
          · rintro σ H16 ⟨n16, o8, o10, o11, rfl, P16, L16, I16, hn16, F16⟩
            exact ⟨n16, o8, o10, o11, rfl, P16, L16, I16, by omega, F16⟩
        clear P15 L15 I15 F15
        rintro σ16 H16 ⟨n16, o8, o10, o11, rfl, P16, L16, I16, hn16, F16⟩
        refine ⟨fun σ' H' => ∃ (n' : Nat) (vo : V) (t : Th), σ' = [some (.ref a), some (.ref d), some (.ref nm), some (.int (0 + i)), some (.ref sa), o5, some v, some (.ref fb), o8, some vf, o10, o11, some vo] ∧ LP 7 H' nm sa T S v p ∧ LF H' fb 24 (iv S).length ts ∧ IsTh H' vf (fl (sg ts) p) ∧ Fm H' vo 40 t ∧ n' ≤ n3 + 900000 ∧ Feed H' d l ns n', ?_, ?_⟩
        · refine ⟨_, rfl, _, rfl, nm, 16, 3, 1, rfl, fun w2 bg2 H17 s17 hw2 hbg2 W17 B17 => use_form 0 5 (F16.same s17) W17 (P16.N.kp (Kp.of s17)) ⟨⟨[], B17, .nil⟩, by decide, fun t ht => (by cases ht)⟩ (nb hn16 hb3) (by decide) (by decide) (by decide) (by decide) (by decide) (by decide) (by decide) rfl fun v18 t18 n18 H18 hv pf hc _ hn18 F18 k18 => ?_⟩
          have kA := (Kp.of s17).trans k18
          exact ⟨n18, v18, t18, rfl, P16.kp kA, L16.kp kA, IsTh.kp kA I16, ⟨hv, pf.le (by decide), sz45 pf (c45 hc)⟩, nt hn18 hn16, F18⟩
        clear P16 L16 I16 F16
        rintro σ17 H17 ⟨n17, vo, t17, rfl, P17, L17, I17, M17, hn17, F17⟩
        refine ⟨fun σ' H' => σ' = [some (.ref a), some (.ref d), some (.ref nm), some (.int (0 + i)), some (.ref sa), o5, some v, some (.ref fb), o8, some vf, o10, o11, some vo] ∧ LP 7 H' nm sa T S v p ∧ LF H' fb 24 (iv S).length ts ∧ IsTh H' vf (fl (sg ts) p) ∧ Feed H' d l ns n17, ?_, ?_⟩
        · refine ⟨_, rfl, _, rfl, sa, iv S, rfl, .inl (SqL.of P17.s), _, rfl, v, vo, p, t17, (iv S).length, rfl, P17.fm (by decide), M17, h64, P17.hh, fun H18 s18 => ⟨_, rfl, iteF ?_⟩⟩
          have P18 := P17.kp (Kp.of s18)
          refine ⟨_, rfl, _, rfl, sa, iv S, rfl, .inl (SqL.of P18.s), _, rfl, v, v, p, p, (iv S).length, rfl, P18.fm (by decide), P18.fm (by decide), h64, P18.hh, fun H19 s19 => ⟨_, rfl, iteF ?_⟩⟩
          have sA := s18.trans s19
          exact ⟨rfl, P17.kp (Kp.of sA), L17.kp (Kp.of sA), IsTh.kp (Kp.of sA) I17, F17.same sA⟩
        clear P17 L17 I17 F17 M17
        rintro σ18 H18 ⟨rfl, P18, L18, I18, F18⟩
        refine ⟨_, rfl, _, rfl, v, vf, p, _, (iv S).length, rfl, P18.fm (by decide), (fill_fm P18 L18 I18 hc13).1, h64, P18.hh, fun no => absurd rfl (no _ L18.tps), fun σ hσ e ga ws H19 s19 ha hws => ?_⟩
        have is19 := got_row P18 L18 e ha hws
        clear hws ha e hσ
        have L19 := L18.kp (Kp.of s19)
        obtain ⟨ws, la, lb⟩ := L19.l
        refine ⟨_, rfl, fb, ws, rfl, .inl ⟨SqL.of la, fun tp htp => ?_⟩⟩
        have st := same_upd (o := .tup ws) htp
        obtain ⟨r1, r2, r3⟩ := L19.row hfew
        refine ⟨.ref ga, .ref tp, .tup ts, rfl, IsTh.kp (Kp.of st) is19, .tup upd_same (IsThs.kp (Kp.of st) lb), r1, r2, r3, fun H20 s20 => ⟨_, rfl, iteF ?_⟩⟩
        have sA := (s19.trans st).trans s20
        exact ⟨n17, _, _, _, _, _, _, _, _, _, _, rfl, by omega, F18.same sA, P18.N.kp (Kp.of sA)⟩
      · rintro σ H3 ⟨n3, o3, o4, o5, o6, o7, o8, o9, o10, o11, o12, rfl, hn3, F3, N3⟩
        refine ⟨(by show 2 ≤ sizeLine; decide), fun p1 h1 => ?_⟩
        have s1 := same_upd (o := .tup [.str "num", .int 1]) h1
        refine ⟨(by show 2 ≤ sizeLine; decide), fun p2 h2 => ?_⟩
        have s2 := same_upd (o := .tup [.str "num", .int 2]) h2
        refine ⟨.ref p1, .ref p2, num 1, num 2, 0, rfl, num_fm (i := 1) (s2 _ _ upd_same), num_fm (i := 2) upd_same, by decide, num_hs 1, fun no H4 s4 => ?_, fun σ _ e => absurd e (num_fl σ)⟩
        refine ⟨_, rfl, iteT ?_⟩
        refine ⟨(by show 2 ≤ sizeLine; decide), fun p3 h3 => ?_⟩
        refine ⟨(by show 2 ≤ sizeLine; decide), fun p4 h4 => ?_⟩
        have t4 := same_upd (o := .tup [.str "hole", .int 3]) h4
        refine ⟨.ref p3, .ref p4, hol 0, hol 3, 1, rfl, hol_fm (i := 0) (t4 _ _ upd_same), hol_fm (i := 3) upd_same, by decide, hol0_hs, fun no => absurd (hol0_fl _) (no (fun _ => hol 3) fun _ => rfl), fun σ _ e ga ws H5 s5 ha hws => ?_⟩
        rw [hol0_fl] at e
        have hws' : IsThs H5 ws [hol 3] := by
          rw [← e]
          exact hws
        refine ⟨(by show 2 ≤ sizeLine; decide), fun p5 h5 => ?_⟩
        have t5 := same_upd (o := .tup [.str "hole", .int 3]) h5
        refine ⟨(by show 1 ≤ sizeLine; decide), fun p6 h6 => ?_⟩
        have t6 := same_upd (o := .tup [.ref p5]) h6
        refine ⟨.ref ga, .ref p6, .tup [hol 3], rfl, .tup ((t5.trans t6) _ _ ha) (IsThs.kp (Kp.of (t5.trans t6)) hws'), .tup upd_same (.cons (hol_is (i := 3) (t6 _ _ upd_same)) .nil), by decide +kernel, by decide +kernel, by decide +kernel, fun H6 s6 => k H6⟩
end
end K17

set_option Elab.async false
set_option linter.all false
set_option maxRecDepth 100000
set_option maxHeartbeats 4000000
namespace K17
open PySem L2
theorem us_len1 {P : List Value → Prop} (h : ∀ a, P [a]) : ∀ us : List Value, us.length = 1 → P us
  | [a], _ => h a
theorem us_len2 {P : List Value → Prop} (h : ∀ a b, P [a, b]) : ∀ us : List Value, us.length = 2 → P us
  | [a, b], _ => h a b
theorem us_len3 {P : List Value → Prop} (h : ∀ a b c, P [a, b, c]) : ∀ us : List Value, us.length = 3 → P us
  | [a, b, c], _ => h a b c
theorem us_len4 {P : List Value → Prop} (h : ∀ a b c d, P [a, b, c, d]) : ∀ us : List Value, us.length = 4 → P us
  | [a, b, c, d], _ => h a b c d
theorem kits_of {K : PySem.W.Frag} (kt_NoneType_int : PySem.W.kitOne K (.type "NoneType") (.type "int") = some false) (kt_bool_int : PySem.W.kitOne K (.type "bool") (.type "int") = some true) (kt_int_int : PySem.W.kitOne K (.type "int") (.type "int") = some true) (kt_str_int : PySem.W.kitOne K (.type "str") (.type "int") = some false) (kt_tuple_int : PySem.W.kitOne K (.type "tuple") (.type "int") = some false) (kt_list_int : PySem.W.kitOne K (.type "list") (.type "int") = some false) (kt_NoneType_bool : PySem.W.kitOne K (.type "NoneType") (.type "bool") = some false) (kt_bool_bool : PySem.W.kitOne K (.type "bool") (.type "bool") = some true) (kt_int_bool : PySem.W.kitOne K (.type "int") (.type "bool") = some false) (kt_str_bool : PySem.W.kitOne K (.type "str") (.type "bool") = some false) (kt_tuple_bool : PySem.W.kitOne K (.type "tuple") (.type "bool") = some false) (kt_list_bool : PySem.W.kitOne K (.type "list") (.type "bool") = some false) (kt_NoneType_tuple : PySem.W.kitOne K (.type "NoneType") (.type "tuple") = some false) (kt_bool_tuple : PySem.W.kitOne K (.type "bool") (.type "tuple") = some false) (kt_int_tuple : PySem.W.kitOne K (.type "int") (.type "tuple") = some false) (kt_str_tuple : PySem.W.kitOne K (.type "str") (.type "tuple") = some false) (kt_tuple_tuple : PySem.W.kitOne K (.type "tuple") (.type "tuple") = some true) (kt_list_tuple : PySem.W.kitOne K (.type "list") (.type "tuple") = some false) : Kits K := by
  refine ⟨?i, ?b, ?t⟩
  case i =>
    intro H v t h
    cases h with
    | «at» f =>
      cases v with
      | non => exact kt_NoneType_int
      | bl b => exact kt_bool_int
      | int i => exact kt_int_int
      | str x => exact kt_str_int
      | _ => exact absurd (show false = true from f) Bool.false_ne_true
    | tup e r => exact kt_tuple_int
    | lst e r => exact kt_list_int
  case b =>
    intro H v t h
    cases h with
    | «at» f =>
      cases v with
      | non => exact kt_NoneType_bool
      | bl b => exact kt_bool_bool
      | int i => exact kt_int_bool
      | str x => exact kt_str_bool
      | _ => exact absurd (show false = true from f) Bool.false_ne_true
    | tup e r => exact kt_tuple_bool
    | lst e r => exact kt_list_bool
  case t =>
    intro H v t h
    cases h with
    | «at» f =>
      cases v with
      | non => exact kt_NoneType_tuple
      | bl b => exact kt_bool_tuple
      | int i => exact kt_int_tuple
      | str x => exact kt_str_tuple
      | _ => exact absurd (show false = true from f) Bool.false_ne_true
    | tup e r => exact kt_tuple_tuple
    | lst e r => exact kt_list_tuple
theorem all_mk {l : PySem.W.OpenLaw} {w : World} {K : PySem.W.Frag} {h : Heap} {mg : Str → Option Value} {fa f0 f1 f2 f3 f4 f5 f6 f7 f8 f9 f10 f11 f12 f13 f14 f15 f16 f17 f18 f19 f20 f21 f22 f23 f24 f25 : Addr} (X : K.In h) (G : h.Ns mainGlobals mg) (hfa : mg "law" = some (.ref fa))
    {od0 an0 od1 an1 od2 an2 od3 an3 od4 an4 od5 an5 od6 an6 od7 an7 od8 an8 od9 an9 od10 an10 od11 an11 od12 an12 od13 an13 od14 an14 od15 an15 od16 an16 od17 an17 od18 an18 od19 an19 od20 an20 od21 an21 od22 an22 od23 an23 od24 an24 od25 an25 : Option Addr} {sl0 sl1 sl2 sl3 sl4 sl5 sl6 sl7 sl8 sl9 sl10 sl11 sl12 sl13 sl14 sl15 sl16 sl17 sl18 sl19 sl20 sl21 sl22 sl23 sl24 sl25 : Array (Option Value)} {oc0 kV0 dc0 pm0 cd0 ct0 oc1 kV1 dc1 pm1 cd1 ct1 oc2 kV2 dc2 pm2 cd2 ct2 oc3 kV3 dc3 pm3 cd3 ct3 oc4 kV4 dc4 pm4 cd4 ct4 oc5 kV5 dc5 pm5 cd5 ct5 oc6 kV6 dc6 pm6 cd6 ct6 oc7 kV7 dc7 pm7 cd7 ct7 oc8 kV8 dc8 pm8 cd8 ct8 oc9 kV9 dc9 pm9 cd9 ct9 oc10 kV10 dc10 pm10 cd10 ct10 oc11 kV11 dc11 pm11 cd11 ct11 oc12 kV12 dc12 pm12 cd12 ct12 oc13 kV13 dc13 pm13 cd13 ct13 oc14 kV14 dc14 pm14 cd14 ct14 oc15 kV15 dc15 pm15 cd15 ct15 oc16 kV16 dc16 pm16 cd16 ct16 oc17 kV17 dc17 pm17 cd17 ct17 oc18 kV18 dc18 pm18 cd18 ct18 oc19 kV19 dc19 pm19 cd19 ct19 oc20 kV20 dc20 pm20 cd20 ct20 oc21 kV21 dc21 pm21 cd21 ct21 oc22 kV22 dc22 pm22 cd22 ct22 oc23 kV23 dc23 pm23 cd23 ct23 oc24 kV24 dc24 pm24 cd24 ct24 oc25 kV25 dc25 pm25 cd25 ct25 : Value} {tkN tkO tkC : Tok}
    (a0 : PySem.W.nsIn K mainGlobals "head" = some (some (.ref f0))) (l0 : K.lookup f0 = some ⟨oc0, od0, .func (PySem.W.fnOf "head" "head" (defArgs sHead) (defBody sHead) (defScope sHead) .none kV0 dc0 pm0 an0 cd0 ct0), sl0⟩) (c0 : PySem.W.codeIn K cd0 "head" = true) (k0 : PySem.W.keepIn K (.ref f0) = true)
    (a1 : PySem.W.nsIn K mainGlobals "parts" = some (some (.ref f1))) (l1 : K.lookup f1 = some ⟨oc1, od1, .func (PySem.W.fnOf "parts" "parts" (defArgs sParts) (defBody sParts) (defScope sParts) .none kV1 dc1 pm1 an1 cd1 ct1), sl1⟩) (c1 : PySem.W.codeIn K cd1 "parts" = true) (k1 : PySem.W.keepIn K (.ref f1) = true)
    (a2 : PySem.W.nsIn K mainGlobals "steps" = some (some (.ref f2))) (l2 : K.lookup f2 = some ⟨oc2, od2, .func (PySem.W.fnOf "steps" "steps" (defArgs sSteps) (defBody sSteps) (defScope sSteps) .none kV2 dc2 pm2 an2 cd2 ct2), sl2⟩) (c2 : PySem.W.codeIn K cd2 "steps" = true) (k2 : PySem.W.keepIn K (.ref f2) = true)
    (a3 : PySem.W.nsIn K mainGlobals "flat" = some (some (.ref f3))) (l3 : K.lookup f3 = some ⟨oc3, od3, .func (PySem.W.fnOf "flat" "flat" (defArgs sFlat) (defBody sFlat) (defScope sFlat) .none kV3 dc3 pm3 an3 cd3 ct3), sl3⟩) (c3 : PySem.W.codeIn K cd3 "flat" = true) (k3 : PySem.W.keepIn K (.ref f3) = true)
    (a4 : PySem.W.nsIn K mainGlobals "headed_alike" = some (some (.ref f4))) (l4 : K.lookup f4 = some ⟨oc4, od4, .func (PySem.W.fnOf "headed_alike" "headed_alike" (defArgs sAlike) (defBody sAlike) (defScope sAlike) .none kV4 dc4 pm4 an4 cd4 ct4), sl4⟩) (c4 : PySem.W.codeIn K cd4 "headed_alike" = true) (k4 : PySem.W.keepIn K (.ref f4) = true)
    (a5 : PySem.W.nsIn K mainGlobals "got" = some (some (.ref f5))) (l5 : K.lookup f5 = some ⟨oc5, od5, .func (PySem.W.fnOf "got" "got" (defArgs sGot) (defBody sGot) (defScope sGot) .none kV5 dc5 pm5 an5 cd5 ct5), sl5⟩) (c5 : PySem.W.codeIn K cd5 "got" = true) (k5 : PySem.W.keepIn K (.ref f5) = true)
    (a6 : PySem.W.nsIn K mainGlobals "_law_feed" = some (some (.ref f6))) (l6 : K.lookup f6 = some ⟨oc6, od6, .func (PySem.W.fnOf "_law_feed" "_law_feed" (defArgs sFeed) (defBody sFeed) (defScope sFeed) .none kV6 dc6 pm6 an6 cd6 ct6), sl6⟩) (c6 : PySem.W.codeIn K cd6 "_law_feed" = true) (k6 : PySem.W.keepIn K (.ref f6) = true)
    (a7 : PySem.W.nsIn K mainGlobals "_law_draw" = some (some (.ref f7))) (l7 : K.lookup f7 = some ⟨oc7, od7, .func (PySem.W.fnOf "_law_draw" "_law_draw" (defArgs sDraw) (defBody sDraw) (defScope sDraw) .none kV7 dc7 pm7 an7 cd7 ct7), sl7⟩) (c7 : PySem.W.codeIn K cd7 "_law_draw" = true) (k7 : PySem.W.keepIn K (.ref f7) = true)
    (a8 : PySem.W.nsIn K mainGlobals "_law_value" = some (some (.ref f8))) (l8 : K.lookup f8 = some ⟨oc8, od8, .func (PySem.W.fnOf "_law_value" "_law_value" (defArgs sLawValue) (defBody sLawValue) (defScope sLawValue) .none kV8 dc8 pm8 an8 cd8 ct8), sl8⟩) (c8 : PySem.W.codeIn K cd8 "_law_value" = true) (k8 : PySem.W.keepIn K (.ref f8) = true)
    (a9 : PySem.W.nsIn K mainGlobals "_law_spelled" = some (some (.ref f9))) (l9 : K.lookup f9 = some ⟨oc9, od9, .func (PySem.W.fnOf "_law_spelled" "_law_spelled" (defArgs sSpelled) (defBody sSpelled) (defScope sSpelled) .none kV9 dc9 pm9 an9 cd9 ct9), sl9⟩) (c9 : PySem.W.codeIn K cd9 "_law_spelled" = true) (k9 : PySem.W.keepIn K (.ref f9) = true)
    (a10 : PySem.W.nsIn K mainGlobals "_law_name" = some (some (.ref f10))) (l10 : K.lookup f10 = some ⟨oc10, od10, .func (PySem.W.fnOf "_law_name" "_law_name" (defArgs sName) (defBody sName) (defScope sName) .none kV10 dc10 pm10 an10 cd10 ct10), sl10⟩) (c10 : PySem.W.codeIn K cd10 "_law_name" = true) (k10 : PySem.W.keepIn K (.ref f10) = true)
    (a11 : PySem.W.nsIn K mainGlobals "_law_names" = some (some (.ref f11))) (l11 : K.lookup f11 = some ⟨oc11, od11, .func (PySem.W.fnOf "_law_names" "_law_names" (defArgs sNames) (defBody sNames) (defScope sNames) .none kV11 dc11 pm11 an11 cd11 ct11), sl11⟩) (c11 : PySem.W.codeIn K cd11 "_law_names" = true) (k11 : PySem.W.keepIn K (.ref f11) = true)
    (a12 : PySem.W.nsIn K mainGlobals "_law_parts" = some (some (.ref f12))) (l12 : K.lookup f12 = some ⟨oc12, od12, .func (PySem.W.fnOf "_law_parts" "_law_parts" (defArgs sLawParts) (defBody sLawParts) (defScope sLawParts) .none kV12 dc12 pm12 an12 cd12 ct12), sl12⟩) (c12 : PySem.W.codeIn K cd12 "_law_parts" = true) (k12 : PySem.W.keepIn K (.ref f12) = true)
    (a13 : PySem.W.nsIn K mainGlobals "_law_with" = some (some (.ref f13))) (l13 : K.lookup f13 = some ⟨oc13, od13, .func (PySem.W.fnOf "_law_with" "_law_with" (defArgs sWith) (defBody sWith) (defScope sWith) .none kV13 dc13 pm13 an13 cd13 ct13), sl13⟩) (c13 : PySem.W.codeIn K cd13 "_law_with" = true) (k13 : PySem.W.keepIn K (.ref f13) = true)
    (a14 : PySem.W.nsIn K mainGlobals "_law_nodes" = some (some (.ref f14))) (l14 : K.lookup f14 = some ⟨oc14, od14, .func (PySem.W.fnOf "_law_nodes" "_law_nodes" (defArgs sNodes) (defBody sNodes) (defScope sNodes) .none kV14 dc14 pm14 an14 cd14 ct14), sl14⟩) (c14 : PySem.W.codeIn K cd14 "_law_nodes" = true) (k14 : PySem.W.keepIn K (.ref f14) = true)
    (a15 : PySem.W.nsIn K mainGlobals "_law_same" = some (some (.ref f15))) (l15 : K.lookup f15 = some ⟨oc15, od15, .func (PySem.W.fnOf "_law_same" "_law_same" (defArgs sSame) (defBody sSame) (defScope sSame) .none kV15 dc15 pm15 an15 cd15 ct15), sl15⟩) (c15 : PySem.W.codeIn K cd15 "_law_same" = true) (k15 : PySem.W.keepIn K (.ref f15) = true)
    (a16 : PySem.W.nsIn K mainGlobals "_law_world" = some (some (.ref f16))) (l16 : K.lookup f16 = some ⟨oc16, od16, .func (PySem.W.fnOf "_law_world" "_law_world" (defArgs sWorld) (defBody sWorld) (defScope sWorld) .none kV16 dc16 pm16 an16 cd16 ct16), sl16⟩) (c16 : PySem.W.codeIn K cd16 "_law_world" = true) (k16 : PySem.W.keepIn K (.ref f16) = true)
    (a17 : PySem.W.nsIn K mainGlobals "_law_leaf" = some (some (.ref f17))) (l17 : K.lookup f17 = some ⟨oc17, od17, .func (PySem.W.fnOf "_law_leaf" "_law_leaf" (defArgs sLeaf) (defBody sLeaf) (defScope sLeaf) .none kV17 dc17 pm17 an17 cd17 ct17), sl17⟩) (c17 : PySem.W.codeIn K cd17 "_law_leaf" = true) (k17 : PySem.W.keepIn K (.ref f17) = true)
    (a18 : PySem.W.nsIn K mainGlobals "_law_form" = some (some (.ref f18))) (l18 : K.lookup f18 = some ⟨oc18, od18, .func (PySem.W.fnOf "_law_form" "_law_form" (defArgs sForm) (defBody sForm) (defScope sForm) .none kV18 dc18 pm18 an18 cd18 ct18), sl18⟩) (c18 : PySem.W.codeIn K cd18 "_law_form" = true) (k18 : PySem.W.keepIn K (.ref f18) = true)
    (a19 : PySem.W.nsIn K mainGlobals "_law_dense" = some (some (.ref f19))) (l19 : K.lookup f19 = some ⟨oc19, od19, .func (PySem.W.fnOf "_law_dense" "_law_dense" (defArgs sDense) (defBody sDense) (defScope sDense) .none kV19 dc19 pm19 an19 cd19 ct19), sl19⟩) (c19 : PySem.W.codeIn K cd19 "_law_dense" = true) (k19 : PySem.W.keepIn K (.ref f19) = true)
    (a20 : PySem.W.nsIn K mainGlobals "_law_turned_about" = some (some (.ref f20))) (l20 : K.lookup f20 = some ⟨oc20, od20, .func (PySem.W.fnOf "_law_turned_about" "_law_turned_about" (defArgs sTurned) (defBody sTurned) (defScope sTurned) .none kV20 dc20 pm20 an20 cd20 ct20), sl20⟩) (c20 : PySem.W.codeIn K cd20 "_law_turned_about" = true) (k20 : PySem.W.keepIn K (.ref f20) = true)
    (a21 : PySem.W.nsIn K mainGlobals "_law_fill" = some (some (.ref f21))) (l21 : K.lookup f21 = some ⟨oc21, od21, .func (PySem.W.fnOf "_law_fill" "_law_fill" (defArgs sFill) (defBody sFill) (defScope sFill) .none kV21 dc21 pm21 an21 cd21 ct21), sl21⟩) (c21 : PySem.W.codeIn K cd21 "_law_fill" = true) (k21 : PySem.W.keepIn K (.ref f21) = true)
    (a22 : PySem.W.nsIn K mainGlobals "_law_clash" = some (some (.ref f22))) (l22 : K.lookup f22 = some ⟨oc22, od22, .func (PySem.W.fnOf "_law_clash" "_law_clash" (defArgs sClash) (defBody sClash) (defScope sClash) .none kV22 dc22 pm22 an22 cd22 ct22), sl22⟩) (c22 : PySem.W.codeIn K cd22 "_law_clash" = true) (k22 : PySem.W.keepIn K (.ref f22) = true)
    (a23 : PySem.W.nsIn K mainGlobals "_law_bent" = some (some (.ref f23))) (l23 : K.lookup f23 = some ⟨oc23, od23, .func (PySem.W.fnOf "_law_bent" "_law_bent" (defArgs sBent) (defBody sBent) (defScope sBent) .none kV23 dc23 pm23 an23 cd23 ct23), sl23⟩) (c23 : PySem.W.codeIn K cd23 "_law_bent" = true) (k23 : PySem.W.keepIn K (.ref f23) = true)
    (a24 : PySem.W.nsIn K mainGlobals "_law_told" = some (some (.ref f24))) (l24 : K.lookup f24 = some ⟨oc24, od24, .func (PySem.W.fnOf "_law_told" "_law_told" (defArgs sTold) (defBody sTold) (defScope sTold) .none kV24 dc24 pm24 an24 cd24 ct24), sl24⟩) (c24 : PySem.W.codeIn K cd24 "_law_told" = true) (k24 : PySem.W.keepIn K (.ref f24) = true)
    (a25 : PySem.W.nsIn K mainGlobals "law" = some (some (.ref f25))) (l25 : K.lookup f25 = some ⟨oc25, od25, .func (PySem.W.fnOf "law" "law" (defArgs sLaw) (defBody sLaw) (defScope sLaw) .none kV25 dc25 pm25 an25 cd25 ct25), sl25⟩) (c25 : PySem.W.codeIn K cd25 "law" = true) (k25 : PySem.W.keepIn K (.ref f25) = true)
    (q_isinstance : PySem.W.nsIn K mainGlobals "isinstance" = some none)
    (q_int : PySem.W.nsIn K mainGlobals "int" = some none)
    (q_bool : PySem.W.nsIn K mainGlobals "bool" = some none)
    (q_str : PySem.W.nsIn K mainGlobals "str" = some none)
    (q_tuple : PySem.W.nsIn K mainGlobals "tuple" = some none)
    (q_len : PySem.W.nsIn K mainGlobals "len" = some none)
    (q_list : PySem.W.nsIn K mainGlobals "list" = some none)
    (q_range : PySem.W.nsIn K mainGlobals "range" = some none)
    (q_sum : PySem.W.nsIn K mainGlobals "sum" = some none)
    (q_all : PySem.W.nsIn K mainGlobals "all" = some none)
    (q_any : PySem.W.nsIn K mainGlobals "any" = some none)
    (q_zip : PySem.W.nsIn K mainGlobals "zip" = some none)
    (q_sorted : PySem.W.nsIn K mainGlobals "sorted" = some none)
    (gN : PySem.W.nsIn K mainGlobals "NODE" = some (some (.str "node" tkN)))
    (gO : PySem.W.nsIn K mainGlobals "OPENED" = some (some (.str "opened" tkO)))
    (gC : PySem.W.nsIn K mainGlobals "CLOSED" = some (some (.str "closed" tkC)))
    (kt_NoneType_int : PySem.W.kitOne K (.type "NoneType") (.type "int") = some false)
    (kt_bool_int : PySem.W.kitOne K (.type "bool") (.type "int") = some true)
    (kt_int_int : PySem.W.kitOne K (.type "int") (.type "int") = some true)
    (kt_str_int : PySem.W.kitOne K (.type "str") (.type "int") = some false)
    (kt_tuple_int : PySem.W.kitOne K (.type "tuple") (.type "int") = some false)
    (kt_list_int : PySem.W.kitOne K (.type "list") (.type "int") = some false)
    (kt_NoneType_bool : PySem.W.kitOne K (.type "NoneType") (.type "bool") = some false)
    (kt_bool_bool : PySem.W.kitOne K (.type "bool") (.type "bool") = some true)
    (kt_int_bool : PySem.W.kitOne K (.type "int") (.type "bool") = some false)
    (kt_str_bool : PySem.W.kitOne K (.type "str") (.type "bool") = some false)
    (kt_tuple_bool : PySem.W.kitOne K (.type "tuple") (.type "bool") = some false)
    (kt_list_bool : PySem.W.kitOne K (.type "list") (.type "bool") = some false)
    (kt_NoneType_tuple : PySem.W.kitOne K (.type "NoneType") (.type "tuple") = some false)
    (kt_bool_tuple : PySem.W.kitOne K (.type "bool") (.type "tuple") = some false)
    (kt_int_tuple : PySem.W.kitOne K (.type "int") (.type "tuple") = some false)
    (kt_str_tuple : PySem.W.kitOne K (.type "str") (.type "tuple") = some false)
    (kt_tuple_tuple : PySem.W.kitOne K (.type "tuple") (.type "tuple") = some true)
    (kt_list_tuple : PySem.W.kitOne K (.type "list") (.type "tuple") = some false)
    (kt_int_str : PySem.W.kitOne K (.type "int") (.type "str") = some false)
    (kt_str_str : PySem.W.kitOne K (.type "str") (.type "str") = some true) :
    ∃ fd : FuncData, (∀ (s : Shared) (v : Value), BindsTo s fd ⟨[v], []⟩ [("_law_script", v)]) ∧ ∀ base : Heap, K.In base → base.Ns mainGlobals mg → FnOk l.prog w K mg base CX0 47 fa fd ["_law_script"] (spLaw K) := by
  have e := hfa.symm.trans (PySem.W.mg_of X G a25)
  cases e
  have F0 := fun_mk (st := sHead) l0 c0 k0
  have b0 := F0.binds (ps := ["node"]) fun _ _ _ _ _ _ => us_len1 fun _ => rfl
  have m0 := PySem.W.mg_of X G a0
  have F1 := fun_mk (st := sParts) l1 c1 k1
  have b1 := F1.binds (ps := ["e"]) fun _ _ _ _ _ _ => us_len1 fun _ => rfl
  have m1 := PySem.W.mg_of X G a1
  have F2 := fun_mk (st := sSteps) l2 c2 k2
  have b2 := F2.binds (ps := ["tree"]) fun _ _ _ _ _ _ => us_len1 fun _ => rfl
  have m2 := PySem.W.mg_of X G a2
  have F3 := fun_mk (st := sFlat) l3 c3 k3
  have b3 := F3.binds (ps := ["tree"]) fun _ _ _ _ _ _ => us_len1 fun _ => rfl
  have m3 := PySem.W.mg_of X G a3
  have F4 := fun_mk (st := sAlike) l4 c4 k4
  have b4 := F4.binds (ps := ["forms"]) fun _ _ _ _ _ _ => us_len1 fun _ => rfl
  have m4 := PySem.W.mg_of X G a4
  have F5 := fun_mk (st := sGot) l5 c5 k5
  have b5 := F5.binds (ps := ["pattern", "other"]) fun _ _ _ _ _ _ => us_len2 fun _ _ => rfl
  have m5 := PySem.W.mg_of X G a5
  have F6 := fun_mk (st := sFeed) l6 c6 k6
  have b6 := F6.binds (ps := ["_law_script"]) fun _ _ _ _ _ _ => us_len1 fun _ => rfl
  have m6 := PySem.W.mg_of X G a6
  have F7 := fun_mk (st := sDraw) l7 c7 k7
  have b7 := F7.binds (ps := ["_law_feed_here", "_law_many"]) fun _ _ _ _ _ _ => us_len2 fun _ _ => rfl
  have m7 := PySem.W.mg_of X G a7
  have F8 := fun_mk (st := sLawValue) l8 c8 k8
  have b8 := F8.binds (ps := ["_law_feed_here"]) fun _ _ _ _ _ _ => us_len1 fun _ => rfl
  have m8 := PySem.W.mg_of X G a8
  have F9 := fun_mk (st := sSpelled) l9 c9 k9
  have b9 := F9.binds (ps := ["_law_number", "_law_long"]) fun _ _ _ _ _ _ => us_len2 fun _ _ => rfl
  have m9 := PySem.W.mg_of X G a9
  have F10 := fun_mk (st := sName) l10 c10 k10
  have b10 := F10.binds (ps := ["_law_feed_here", "_law_taken"]) fun _ _ _ _ _ _ => us_len2 fun _ _ => rfl
  have m10 := PySem.W.mg_of X G a10
  have F11 := fun_mk (st := sNames) l11 c11 k11
  have b11 := F11.binds (ps := ["_law_feed_here", "_law_many"]) fun _ _ _ _ _ _ => us_len2 fun _ _ => rfl
  have m11 := PySem.W.mg_of X G a11
  have F12 := fun_mk (st := sLawParts) l12 c12 k12
  have b12 := F12.binds (ps := ["_law_e"]) fun _ _ _ _ _ _ => us_len1 fun _ => rfl
  have m12 := PySem.W.mg_of X G a12
  have F13 := fun_mk (st := sWith) l13 c13 k13
  have b13 := F13.binds (ps := ["_law_e", "_law_inner"]) fun _ _ _ _ _ _ => us_len2 fun _ _ => rfl
  have m13 := PySem.W.mg_of X G a13
  have F14 := fun_mk (st := sNodes) l14 c14 k14
  have b14 := F14.binds (ps := ["_law_e"]) fun _ _ _ _ _ _ => us_len1 fun _ => rfl
  have m14 := PySem.W.mg_of X G a14
  have F15 := fun_mk (st := sSame) l15 c15 k15
  have b15 := F15.binds (ps := ["_law_found", "_law_due"]) fun _ _ _ _ _ _ => us_len2 fun _ _ => rfl
  have m15 := PySem.W.mg_of X G a15
  have F16 := fun_mk (st := sWorld) l16 c16 k16
  have b16 := F16.binds (ps := ["_law_names_here", "_law_room", "_law_holes", "_law_astray"]) fun _ _ _ _ _ _ => us_len4 fun _ _ _ _ => rfl
  have m16 := PySem.W.mg_of X G a16
  have F17 := fun_mk (st := sLeaf) l17 c17 k17
  have b17 := F17.binds (ps := ["_law_feed_here", "_law_world_here", "_law_lets"]) fun _ _ _ _ _ _ => us_len3 fun _ _ _ => rfl
  have m17 := PySem.W.mg_of X G a17
  have F18 := fun_mk (st := sForm) l18 c18 k18
  have b18 := F18.binds (ps := ["_law_feed_here", "_law_world_here", "_law_lets", "_law_below"]) fun _ _ _ _ _ _ => us_len4 fun _ _ _ _ => rfl
  have m18 := PySem.W.mg_of X G a18
  have F19 := fun_mk (st := sDense) l19 c19 k19
  have b19 := F19.binds (ps := ["_law_b", "_law_seen"]) fun _ _ _ _ _ _ => us_len2 fun _ _ => rfl
  have m19 := PySem.W.mg_of X G a19
  have F20 := fun_mk (st := sTurned) l20 c20 k20
  have b20 := F20.binds (ps := ["_law_b", "_law_many"]) fun _ _ _ _ _ _ => us_len2 fun _ _ => rfl
  have m20 := PySem.W.mg_of X G a20
  have F21 := fun_mk (st := sFill) l21 c21 k21
  have b21 := F21.binds (ps := ["_law_b", "_law_fillings"]) fun _ _ _ _ _ _ => us_len2 fun _ _ => rfl
  have m21 := PySem.W.mg_of X G a21
  have F22 := fun_mk (st := sClash) l22 c22 k22
  have b22 := F22.binds (ps := ["_law_pattern", "_law_other", "_law_found"]) fun _ _ _ _ _ _ => us_len3 fun _ _ _ => rfl
  have m22 := PySem.W.mg_of X G a22
  have F23 := fun_mk (st := sBent) l23 c23 k23
  have b23 := F23.binds (ps := ["_law_b", "_law_at", "_law_leaf_here"]) fun _ _ _ _ _ _ => us_len3 fun _ _ _ => rfl
  have m23 := PySem.W.mg_of X G a23
  have F24 := fun_mk (st := sTold) l24 c24 k24
  have b24 := F24.binds (ps := ["_law_pattern", "_law_many", "_law_other"]) fun _ _ _ _ _ _ => us_len3 fun _ _ _ => rfl
  have m24 := PySem.W.mg_of X G a24
  have F25 := fun_mk (st := sLaw) l25 c25 k25
  have z_isinstance := PySem.W.mg_none_of X G q_isinstance
  have z_int := PySem.W.mg_none_of X G q_int
  have z_bool := PySem.W.mg_none_of X G q_bool
  have z_str := PySem.W.mg_none_of X G q_str
  have z_tuple := PySem.W.mg_none_of X G q_tuple
  have z_len := PySem.W.mg_none_of X G q_len
  have z_list := PySem.W.mg_none_of X G q_list
  have z_range := PySem.W.mg_none_of X G q_range
  have z_sum := PySem.W.mg_none_of X G q_sum
  have z_all := PySem.W.mg_none_of X G q_all
  have z_any := PySem.W.mg_none_of X G q_any
  have z_zip := PySem.W.mg_none_of X G q_zip
  have z_sorted := PySem.W.mg_none_of X G q_sorted
  have T0 : Txt0 mg := ⟨z_len, z_list, z_range⟩
  have T : TxtT mg := ⟨z_isinstance, z_int, z_bool, z_tuple, z_len⟩
  have TA : TxtA mg := ⟨z_str, z_all, z_any, z_range⟩
  have KI : Kits K := kits_of kt_NoneType_int kt_bool_int kt_int_int kt_str_int kt_tuple_int kt_list_int kt_NoneType_bool kt_bool_bool kt_int_bool kt_str_bool kt_tuple_bool kt_list_bool kt_NoneType_tuple kt_bool_tuple kt_int_tuple kt_str_tuple kt_tuple_tuple kt_list_tuple
  have KT : KS K := ⟨kt_int_str, kt_str_str⟩
  have TD : TxtD mg := ⟨⟨_, PySem.W.mg_of X G gN⟩, ⟨_, PySem.W.mg_of X G gO⟩, ⟨_, PySem.W.mg_of X G gC⟩⟩
  have U : Helpers K mg f7 f9 _ _ := ⟨T0, F7, b7, m7, F9, b9, m9⟩
  have HTT : HT K mg f1 f0 f2 _ _ _ := ⟨T, TD, KI, F1, b1, m1, F0, b0, m0, F2, b2, m2⟩
  have HGG : HG K mg f3 f4 _ _ := ⟨F3, b3, m3, F4, b4, m4, z_all, z_list, z_zip, z_sorted⟩
  have HWW : HW K mg f12 f13 _ _ := ⟨T, KI, F12, b12, m12, F13, b13, m13⟩
  have HCC : HC K mg f5 f22 f21 f15 _ _ _ _ := ⟨F5, b5, m5, F22, b22, m22, F21, b21, m21, F15, b15, m15⟩
  refine ⟨PySem.W.fnOf "law" "law" (defArgs sLaw) (defBody sLaw) (defScope sLaw) .none kV25 dc25 pm25 an25 cd25 ct25, fun s v => .of_eq rfl, fun base _ _ => ?_⟩
  have GNo := ok_nodes (P := l.prog) (w := w) (base := base) F14 b14 m14 T KI z_sum F12 b12 m12
  have GL := ok_leaf (P := l.prog) (w := w) (base := base) F17 U F8 b8 m8
  have GX := ok_formU fun B N => ok_form (P := l.prog) (w := w) (base := base) F18 b18 m18 U T GL F17 b17 m17 GNo F14 b14 m14 B N
  have GN := ok_names (P := l.prog) (w := w) (base := base) F11 U F10 b10 m10
  exact ok_law F25 U T z_list F6 b6 m6 GN F11 b11 m11 F16 b16 m16 GX F18 b18 m18 (ok_dense F19 b19 m19 HWW 5) F19 b19 m19 (ok_turned F20 b20 m20 HWW 6) F20 b20 m20 (ok_fill F21 b21 m21 HWW 7) F21 b21 m21 (GNo 31) F14 b14 m14 (ok_got F5 HTT HGG 40) F5 b5 m5 (ok_same F15 b15 m15 T TA KI KT 40) F15 b15 m15 (ok_bent F23 b23 m23 HWW TA z_sum F14 b14 m14 2 31) F23 b23 m23 (ok_told F24 HCC HWW TA KT HTT HGG 40 (by decide)) F24 b24 m24
theorem walk {l : PySem.W.OpenLaw} {q : Program} {loose : List Str} {XP : (Str → Option Value) → Heap → Prop} {YP : World → Heap → Prop} {d : DefRec} {K : Params → PySem.W.Frag} (hn : l.most = some 63) (hdf : d.params.defaults = [])
    (hY : ∀ (w : World) (h : Heap), YP w h → (K w.params).In h)
    (F : ∀ (w : World) (mg : Str → Option Value) (fa : Addr) (h : Heap), (K w.params).In h → h.Ns mainGlobals mg → mg d.name = some (.ref fa) →
      ∃ fd : FuncData, (∀ (s : Shared) (u : Value), BindsTo s fd ⟨[u], []⟩ [("_law_script", u)]) ∧ ∀ base : Heap, (K w.params).In base → base.Ns mainGlobals mg → FnOk l.prog w (K w.params) mg base CX0 47 fa fd ["_law_script"] (spLaw (K w.params))) :
    PySem.W.WalkO q loose XP YP l.row.toRowW d [] (fun f vs => PySem.call f vs) :=
  L2.walk_of (n := 63) (k := 47) (x := "_law_script") (CX := fun _ => CX0) (sp := fun w => spLaw (K w.params)) hn (by decide) hdf ⟨rfl, rfl, by decide, by decide⟩ hY F (fun _ _ a ns hl _ hS => ⟨a, ns, rfl, hS, hl, fun _ => rfl⟩) fun _ _ _ _ _ z => z
end K17

open PySem PySem.W PyProof.Rows
set_option Elab.async false
set_option maxRecDepth 100000 in
set_option maxHeartbeats 0 in
theorem PySem.Challenge.cw_likepieces_k17_patterns_got_holds : PySem.Challenge.rw_likepieces_k17_patterns_got.Holds := by
  w_on; o_law; k_head; (case hw => w_witness2)
  k_fill
  refine K17.walk (l := PySem.Challenge.rw_likepieces_k17_patterns_got) rfl rfl (fun w h Y => PySem.W.kIn_of Y) ?F
  case F =>
    intro w mg fa h KX G hmg
    refine' K17.all_mk KX G hmg ?a0 ?l0 ?c0 ?k0 ?a1 ?l1 ?c1 ?k1 ?a2 ?l2 ?c2 ?k2 ?a3 ?l3 ?c3 ?k3 ?a4 ?l4 ?c4 ?k4 ?a5 ?l5 ?c5 ?k5 ?a6 ?l6 ?c6 ?k6 ?a7 ?l7 ?c7 ?k7 ?a8 ?l8 ?c8 ?k8 ?a9 ?l9 ?c9 ?k9 ?a10 ?l10 ?c10 ?k10 ?a11 ?l11 ?c11 ?k11 ?a12 ?l12 ?c12 ?k12 ?a13 ?l13 ?c13 ?k13 ?a14 ?l14 ?c14 ?k14 ?a15 ?l15 ?c15 ?k15 ?a16 ?l16 ?c16 ?k16 ?a17 ?l17 ?c17 ?k17 ?a18 ?l18 ?c18 ?k18 ?a19 ?l19 ?c19 ?k19 ?a20 ?l20 ?c20 ?k20 ?a21 ?l21 ?c21 ?k21 ?a22 ?l22 ?c22 ?k22 ?a23 ?l23 ?c23 ?k23 ?a24 ?l24 ?c24 ?k24 ?a25 ?l25 ?c25 ?k25 ?q_isinstance ?q_int ?q_bool ?q_str ?q_tuple ?q_len ?q_list ?q_range ?q_sum ?q_all ?q_any ?q_zip ?q_sorted ?gN ?gO ?gC ?kt_NoneType_int ?kt_bool_int ?kt_int_int ?kt_str_int ?kt_tuple_int ?kt_list_int ?kt_NoneType_bool ?kt_bool_bool ?kt_int_bool ?kt_str_bool ?kt_tuple_bool ?kt_list_bool ?kt_NoneType_tuple ?kt_bool_tuple ?kt_int_tuple ?kt_str_tuple ?kt_tuple_tuple ?kt_list_tuple ?kt_int_str ?kt_str_str
    (case a0 => k_is)
    (case l0 => k_is)
    (case c0 => k_is)
    (case k0 => k_is)
    (case a1 => k_is)
    (case l1 => k_is)
    (case c1 => k_is)
    (case k1 => k_is)
    (case a2 => k_is)
    (case l2 => k_is)
    (case c2 => k_is)
    (case k2 => k_is)
    (case a3 => k_is)
    (case l3 => k_is)
    (case c3 => k_is)
    (case k3 => k_is)
    (case a4 => k_is)
    (case l4 => k_is)
    (case c4 => k_is)
    (case k4 => k_is)
    (case a5 => k_is)
    (case l5 => k_is)
    (case c5 => k_is)
    (case k5 => k_is)
    (case a6 => k_is)
    (case l6 => k_is)
    (case c6 => k_is)
    (case k6 => k_is)
    (case a7 => k_is)
    (case l7 => k_is)
    (case c7 => k_is)
    (case k7 => k_is)
    (case a8 => k_is)
    (case l8 => k_is)
    (case c8 => k_is)
    (case k8 => k_is)
    (case a9 => k_is)
    (case l9 => k_is)
    (case c9 => k_is)
    (case k9 => k_is)
    (case a10 => k_is)
    (case l10 => k_is)
    (case c10 => k_is)
    (case k10 => k_is)
    (case a11 => k_is)
    (case l11 => k_is)
    (case c11 => k_is)
    (case k11 => k_is)
    (case a12 => k_is)
    (case l12 => k_is)
    (case c12 => k_is)
    (case k12 => k_is)
    (case a13 => k_is)
    (case l13 => k_is)
    (case c13 => k_is)
    (case k13 => k_is)
    (case a14 => k_is)
    (case l14 => k_is)
    (case c14 => k_is)
    (case k14 => k_is)
    (case a15 => k_is)
    (case l15 => k_is)
    (case c15 => k_is)
    (case k15 => k_is)
    (case a16 => k_is)
    (case l16 => k_is)
    (case c16 => k_is)
    (case k16 => k_is)
    (case a17 => k_is)
    (case l17 => k_is)
    (case c17 => k_is)
    (case k17 => k_is)
    (case a18 => k_is)
    (case l18 => k_is)
    (case c18 => k_is)
    (case k18 => k_is)
    (case a19 => k_is)
    (case l19 => k_is)
    (case c19 => k_is)
    (case k19 => k_is)
    (case a20 => k_is)
    (case l20 => k_is)
    (case c20 => k_is)
    (case k20 => k_is)
    (case a21 => k_is)
    (case l21 => k_is)
    (case c21 => k_is)
    (case k21 => k_is)
    (case a22 => k_is)
    (case l22 => k_is)
    (case c22 => k_is)
    (case k22 => k_is)
    (case a23 => k_is)
    (case l23 => k_is)
    (case c23 => k_is)
    (case k23 => k_is)
    (case a24 => k_is)
    (case l24 => k_is)
    (case c24 => k_is)
    (case k24 => k_is)
    (case a25 => k_is)
    (case l25 => k_is)
    (case c25 => k_is)
    (case k25 => k_is)
    (case q_isinstance => k_is)
    (case q_int => k_is)
    (case q_bool => k_is)
    (case q_str => k_is)
    (case q_tuple => k_is)
    (case q_len => k_is)
    (case q_list => k_is)
    (case q_range => k_is)
    (case q_sum => k_is)
    (case q_all => k_is)
    (case q_any => k_is)
    (case q_zip => k_is)
    (case q_sorted => k_is)
    (case gN => k_is)
    (case gO => k_is)
    (case gC => k_is)
    (case kt_NoneType_int => first | k_is | rfl | decide)
    (case kt_bool_int => first | k_is | rfl | decide)
    (case kt_int_int => first | k_is | rfl | decide)
    (case kt_str_int => first | k_is | rfl | decide)
    (case kt_tuple_int => first | k_is | rfl | decide)
    (case kt_list_int => first | k_is | rfl | decide)
    (case kt_NoneType_bool => first | k_is | rfl | decide)
    (case kt_bool_bool => first | k_is | rfl | decide)
    (case kt_int_bool => first | k_is | rfl | decide)
    (case kt_str_bool => first | k_is | rfl | decide)
    (case kt_tuple_bool => first | k_is | rfl | decide)
    (case kt_list_bool => first | k_is | rfl | decide)
    (case kt_NoneType_tuple => first | k_is | rfl | decide)
    (case kt_bool_tuple => first | k_is | rfl | decide)
    (case kt_int_tuple => first | k_is | rfl | decide)
    (case kt_str_tuple => first | k_is | rfl | decide)
    (case kt_tuple_tuple => first | k_is | rfl | decide)
    (case kt_list_tuple => first | k_is | rfl | decide)
    (case kt_int_str => first | k_is | rfl | decide)
    (case kt_str_str => first | k_is | rfl | decide)

