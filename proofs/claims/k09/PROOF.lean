import PyProof.Rows.All
import Wide.All
import OpenK.AllK
import Wide.FinOn
import Lean
import PyProof.EqAt
import PyProof.EqKinds
import PyProof.TupleCall
import PyProof.NeKinds
import PyProof.Rows.SortStr
import PyProof.Rows.SeqMore
import PyProof.Rows.CatFin
import PyProof.MeetsStr
import PyProof.Rows.SumAny
import PyProof.Rows.SortShell
import PyProof.Rows.SetFrom
import PyProof.DictWalks
import PyProof.Rows.SortReads
import PySem.Challenge.RW_likepieces_k09_loose_owns
set_option Elab.async false
set_option linter.all false
set_option maxRecDepth 100000
/-! THE HAND LAYER, for ints, bools, texts, own classes, LISTS and tuples (index, slices, in, append, pop ..), calls, loops. Paste it whole ahead of your own text; what your proof does not reach may be deleted. -/
namespace L2
open PySem PySem.Spec PyProof.Rows

/-- a key: an int or a str -/
abbrev Key := Sum Int Str
def keyIs : Key → Value → Bool
  | .inl k, v => Value.isInt k v
  | .inr x, v => Value.isStrOf x v
def keyH (w : World) : Key → Int
  | .inl k => hashInt k
  | .inr x => hashStr w x
theorem keyIs_shape : ∀ {k : Key} {v : Value}, keyIs k v = true → (∃ i t, k = Sum.inl i ∧ v = Value.int i t) ∨ (∃ x t, k = Sum.inr x ∧ v = Value.str x t)
  | .inl i, v, h => by
    obtain ⟨t, e⟩ := Value.isInt_shape (k := i) (v := v) h
    exact .inl ⟨i, t, rfl, e⟩
  | .inr x, v, h => by
    obtain ⟨t, e⟩ := Value.isStrOf_shape (x := x) (v := v) h
    exact .inr ⟨x, t, rfl, e⟩
theorem keyIs_int (i : Int) (t : Tok) : keyIs (.inl i) (.int i t) = true := by simp [keyIs, Value.isInt]
theorem keyIs_str (x : Str) (t : Tok) : keyIs (.inr x) (.str x t) = true := by simp [keyIs, Value.isStrOf]
theorem key_ll (a b : Int) : decide ((Sum.inl a : Key) = Sum.inl b) = (a == b) := by
  by_cases e : a = b
  · subst e; simp
  · have h : ¬ (Sum.inl a : Key) = Sum.inl b := fun q => e (Sum.inl.inj q)
    rw [decide_eq_false h]
    exact (beq_eq_false_iff_ne.mpr e).symm
theorem key_rr (a b : Str) : decide ((Sum.inr a : Key) = Sum.inr b) = decide (a = b) := by
  by_cases e : a = b
  · subst e; simp
  · have h : ¬ (Sum.inr a : Key) = Sum.inr b := fun q => e (Sum.inr.inj q)
    rw [decide_eq_false h, decide_eq_false e]
theorem key_lr (a : Int) (b : Str) : decide ((Sum.inl a : Key) = Sum.inr b) = false := decide_eq_false (fun q => nomatch q)
theorem key_rl (a : Str) (b : Int) : decide ((Sum.inr a : Key) = Sum.inl b) = false := decide_eq_false (fun q => nomatch q)

def mixKind (prog : Program) (w : World) : PySem.KeyKind prog w Key where
  is := keyIs
  hash := keyH w
  inj := fun v a b ha hb => by
    rcases keyIs_shape ha with ⟨i, t, rfl, rfl⟩ | ⟨x, t, rfl, rfl⟩
    · rcases keyIs_shape hb with ⟨j, u, rfl, e⟩ | ⟨y, u, rfl, e⟩
      · injection e with e1 _; rw [e1]
      · exact nomatch e
    · rcases keyIs_shape hb with ⟨j, u, rfl, e⟩ | ⟨y, u, rfl, e⟩
      · exact nomatch e
      · injection e with e1 _; rw [e1]
  byValue := fun k v h => by
    rcases keyIs_shape h with ⟨i, t, rfl, rfl⟩ | ⟨x, t, rfl, rfl⟩ <;> rfl
  pyHash := fun hv h => by
    rcases keyIs_shape hv with ⟨i, t, rfl, rfl⟩ | ⟨x, t, rfl, rfl⟩
    · exact wpAny_pyHash_int h
    · exact wpAny_pyHash_str h
  eqBool := fun hu hv h => by
    rcases keyIs_shape hu with ⟨i, t, rfl, rfl⟩ | ⟨x, t, rfl, rfl⟩
    · rcases keyIs_shape hv with ⟨j, u, rfl, rfl⟩ | ⟨y, u, rfl, rfl⟩
      · rw [key_ll] at h; exact wpAny_eqBool_int h
      · rw [key_lr] at h; exact SeqAt.EqAt.int_str i t y u _ _ _ _ h
    · rcases keyIs_shape hv with ⟨j, u, rfl, rfl⟩ | ⟨y, u, rfl, rfl⟩
      · rw [key_rl] at h; exact SeqAt.EqAt.str_int x t j u _ _ _ _ h
      · rw [key_rr] at h; exact wpAny_eqBool_str h
  «strs» := fun k x t v h => by
    rcases keyIs_shape h with ⟨i, u, rfl, e⟩ | ⟨y, u, rfl, e⟩
    · exact nomatch e
    · injection e with e1 _
      subst e1
      cases v <;> rfl

theorem mixKind_int (prog : Program) (w : World) (i : Int) (t : Tok) : (mixKind prog w).is (.inl i) (.int i t) = true := keyIs_int i t
theorem mixKind_str (prog : Program) (w : World) (x : Str) (t : Tok) : (mixKind prog w).is (.inr x) (.str x t) = true := keyIs_str x t
end L2

namespace L2
open PySem PySem.Spec PyProof.Rows

/-- a value, without the heap -/
inductive V where
  | non | bl (b : Bool) | int (i : Int) | str (x : Str) | byt (b : Array UInt8) | flt (b : UInt64) | ref (a : Addr) | ty (n : String)
  deriving DecidableEq

def RelV : V → Value → Prop
  | .non, u => u = Value.none
  | .bl b, u => u = Value.bool b
  | .int i, u => ∃ t, u = Value.int i t
  | .str x, u => ∃ t, u = Value.str x t
  | .byt b, u => ∃ t, u = Value.bytes b t
  | .flt b, u => ∃ t, u = Value.float b t
  | .ref a, u => u = Value.ref a
  | .ty n, u => u = Value.type n

abbrev Vals : List V → List Value → Prop := Paired RelV
theorem Vals.length {xs : List V} {us : List Value} (r : Vals xs us) : xs.length = us.length := Paired.length r
theorem Vals.get : ∀ {xs : List V} {us : List Value} {i : Nat} {x : V}, Vals xs us → xs[i]? = some x → ∃ u, us[i]? = some u ∧ RelV x u
  | _, _, _, _, .nil, e => by simp at e
  | _, _, 0, _, .cons r _, e => by simp at e; subst e; exact ⟨_, rfl, r⟩
  | _, _, i + 1, x, .cons _ t, e => by
    obtain ⟨u, h1, h2⟩ := Vals.get (i := i) (x := x) t (by simpa using e)
    exact ⟨u, by simpa using h1, h2⟩
theorem Vals.append : ∀ {xs ys : List V} {us ws : List Value}, Vals xs us → Vals ys ws → Vals (xs ++ ys) (us ++ ws)
  | _, _, _, _, .nil, s => s
  | _, _, _, _, .cons r t, s => .cons r (Vals.append t s)
theorem Vals.take : ∀ {xs : List V} {us : List Value} (n : Nat), Vals xs us → Vals (xs.take n) (us.take n)
  | _, _, 0, _ => .nil
  | _, _, _ + 1, .nil => .nil
  | _, _, n + 1, .cons r t => .cons r (Vals.take n t)
theorem Vals.drop : ∀ {xs : List V} {us : List Value} (n : Nat), Vals xs us → Vals (xs.drop n) (us.drop n)
  | _, _, 0, r => r
  | _, _, _ + 1, .nil => .nil
  | _, _, n + 1, .cons _ t => Vals.drop n t

def RelO : Option V → Option Value → Prop
  | some v, some u => RelV v u
  | none, none => True
  | _, _ => False
def KV {κ : Type} : List (κ × V) → List (κ × Value) → Prop := Paired fun (p : κ × V) (q : κ × Value) => p.1 = q.1 ∧ RelV p.2 q.2

/-- a key of a dict (00_mix): an int or a text -/
def kV : Key → V
  | .inl i => .int i
  | .inr x => .str x

/-- what stands at a tracked address -/
inductive HO where
  /-- a list -/
  | lst (xs : List V)
  /-- a tuple (never changes) -/
  | tup (xs : List V)
  /-- a dict whose keys are ints and texts; one whose keys are tuples of ints and texts (the empty one is both) -/
  | dK (kvs : List (Key × V)) | dT (kvs : List (List Key × V))
  /-- a set of ints: its members, its size -/
  | set (S : Int → Bool) (n : Nat)
  /-- an instance of the class at C, its dict at dx, its attributes -/
  | ins (C dx : Addr) (fs : List (Str × V))
  /-- the dict of the instance at x -/
  | own (x : Addr)
  /-- the dict of an exception -/
  | xd (fs : List (Str × V))
  /-- a bound method, f of x -/
  | met (f x : Addr)
  /-- a range object lo, lo + 1, .. below hi -/
  | rng (lo hi : Int)
  /-- a thing that is known to the object (the script; a dict while a loop walks it): read, never written while it is so -/
  | frz (o : Obj) (u : HO)
  /-- a code object's table -/
  | tbl (ps : Array Value)
  /-- any other thing, by what is true of its one object (a def of one's own: SetO a S n := HO.ext fun h => ..) -/
  | ext (φ : Heap → Prop)

abbrev Hp := Addr → Option HO
def upd (H : Hp) (a : Addr) (o : HO) : Hp := fun b => if b = a then some o else H b
theorem upd_same {H : Hp} {a : Addr} {o : HO} : upd H a o a = some o := by unfold upd; rw [if_pos rfl]
theorem upd_ne {H : Hp} {a b : Addr} {o : HO} (h : b ≠ a) : upd H a o b = H b := by unfold upd; rw [if_neg h]
/-- two objects of different content stand apart -/
theorem ne_of {H : Hp} {a b : Addr} {o u : HO} (h : H a = some o) (h' : H b = some u) (d : o ≠ u) : a ≠ b := by
  intro e; subst e; rw [h] at h'; exact d (Option.some.inj h')
theorem ne_of_none {H : Hp} {a b : Addr} {o : HO} (h : H a = some o) (h' : H b = none) : a ≠ b := by
  intro e; subst e; rw [h] at h'; cases h'

section
variable (P : Program) (w : World)
def ObjOk (H : Hp) (h : Heap) (a : Addr) : HO → Prop
  | .lst xs => xs.length ≤ sizeLine ∧ ∃ (its : List Value) (n : Nat), Vals xs its ∧ h.get? a = some { cls := .type "list", data := .seq its.toArray n }
  | .tup xs => xs.length ≤ sizeLine ∧ ∃ its : List Value, Vals xs its ∧ IsTup h a its.toArray
  | .dK kvs => kvs.length ≤ sizeLine ∧ (a == sysModules) = false ∧ ∃ vs, KV kvs vs ∧ h.DictOf (mixKind P w) a vs
  | .dT kvs => kvs.length ≤ sizeLine ∧ (a == sysModules) = false ∧ ∃ xs : List (List Key × Addr × Value),
      Paired (fun (p : List Key × V) (q : List Key × Addr × Value) => p.1 = q.1 ∧ H q.2.1 = some (.tup (p.1.map kV)) ∧ RelV p.2 q.2.2) kvs xs ∧
      ∃ o es ep, h.get? a = some o ∧ o.ExactDict ∧ o.data = .dict es ep ∧ es.toList = xs.map (entryOfKey (tupleKind (mixKind P w))) ∧ (xs.map (·.1)).Nodup
  | .set S n => h.SetOf (intKind P w) a S n
  | .ins C dx fs => H dx = some (.own a) ∧ fs.length ≤ 1000 ∧ dx ≠ a ∧ h.get? a = some (PySem.W.instObj C dx) ∧
      ∃ mA, h.Ns1 dx mA ∧ (∀ f, RelO (fs.lookup f) (mA f)) ∧ PySem.Within mA (fs.map (·.1))
  | .own _ => ∃ o, h.get? a = some o
  | .xd fs => ∃ mA, h.Ns1 a mA ∧ ∀ f, RelO (fs.lookup f) (mA f)
  | .rng lo hi => ∃ t u v, h.get? a = some { cls := .type "range", data := .fields #[.int lo t, .int hi u, .int 1 v] }
  | .frz o u => h.get? a = some o ∧ ObjOk H h a u
  | .tbl ps => h.get? a = some { cls := .none, data := .fields ps }
  | .met f x => h.get? a = some (PySem.W.methodObj (.ref f) (.ref x))
  | .ext φ => φ h ∧ (∃ o, h.get? a = some o) ∧ ∀ h1 h2 : Heap, φ h1 → (∀ o, h1.get? a = some o → h2.get? a = some o) → φ h2
/-- the abstract heap is held -/
def HOk (H : Hp) (h : Heap) : Prop := ∀ a o, H a = some o → ObjOk P w H h a o
end

section
variable {P : Program} {w : World} {H H' : Hp} {h h' : Heap} {a : Addr} {o : HO}
theorem ObjOk.lt (x : ObjOk P w H h a o) : a < h.objs.size := by
  cases o with
  | lst xs => obtain ⟨_, _, _, _, e⟩ := x; exact Heap.lt_size e
  | tup xs => obtain ⟨_, _, _, p⟩ := x; exact p.lt
  | dK kvs => obtain ⟨_, _, _, _, o, _, _, e, _⟩ := x; exact Heap.lt_size e
  | dT kvs => obtain ⟨_, _, _, _, o, _, _, e, _⟩ := x; exact Heap.lt_size e
  | set S n => obtain ⟨o, _, _, _, e, _⟩ := x; exact Heap.lt_size e
  | ins C dx fs => obtain ⟨_, _, _, e, _⟩ := x; exact Heap.lt_size e
  | own y => obtain ⟨_, e⟩ := x; exact Heap.lt_size e
  | xd fs => obtain ⟨_, ⟨_, _, _, e, _⟩, _⟩ := x; exact Heap.lt_size e
  | rng lo hi => obtain ⟨_, _, _, e⟩ := x; exact Heap.lt_size e
  | frz ob u => obtain ⟨e, _⟩ := x; exact Heap.lt_size e
  | tbl ps => exact Heap.lt_size (show h.get? a = some _ from x)
  | met f y => exact Heap.lt_size (show h.get? a = some _ from x)
  | ext φ => obtain ⟨_, ⟨_, e⟩, _⟩ := x; exact Heap.lt_size e
theorem Paired.mapP {α β : Type} {F G : α → β → Prop} : ∀ {l₁ : List α} {l₂ : List β}, Paired F l₁ l₂ → (∀ a b, F a b → G a b) → Paired G l₁ l₂
  | _, _, .nil, _ => .nil
  | _, _, .cons r t, f => .cons (f _ _ r) (Paired.mapP t f)
/-- what an object's description leans on: its own object, its own dict, the tuples -/
theorem ObjOk.stay (x : ObjOk P w H h a o) (k : ∀ b u, (b = a ∨ H b = some (.own a)) → h.get? b = some u → h'.get? b = some u)
    (ho : ∀ b, H b = some (.own a) → H' b = some (.own a)) (ht : ∀ b xs, H b = some (.tup xs) → H' b = some (.tup xs)) : ObjOk P w H' h' a o := by
  induction o with
  | lst xs => obtain ⟨z, its, n, r, e⟩ := x; exact ⟨z, its, n, r, k _ _ (.inl rfl) e⟩
  | tup xs => obtain ⟨z, its, r, ob, e, c⟩ := x; exact ⟨z, its, r, ob, k _ _ (.inl rfl) e, c⟩
  | dK kvs => obtain ⟨z, y, vs, r, ob, es, ep, e, c⟩ := x; exact ⟨z, y, vs, r, ob, es, ep, k _ _ (.inl rfl) e, c⟩
  | dT kvs =>
    obtain ⟨z, y, xs, r, ob, es, ep, e, c⟩ := x
    exact ⟨z, y, xs, Paired.mapP r fun p q z => ⟨z.1, ht _ _ z.2.1, z.2.2⟩, ob, es, ep, k _ _ (.inl rfl) e, c⟩
  | set S n => obtain ⟨ob, es, ep, t, e, c⟩ := x; exact ⟨ob, es, ep, t, k _ _ (.inl rfl) e, c⟩
  | ins C dx fs =>
    obtain ⟨d, z, ne, e, mA, ⟨od, es, ep, e2, c⟩, r⟩ := x
    exact ⟨ho _ d, z, ne, k _ _ (.inl rfl) e, mA, ⟨od, es, ep, k _ _ (.inr d) e2, c⟩, r⟩
  | own y => obtain ⟨ob, e⟩ := x; exact ⟨ob, k _ _ (.inl rfl) e⟩
  | xd fs => obtain ⟨mA, ⟨od, es, ep, e, c⟩, r⟩ := x; exact ⟨mA, ⟨od, es, ep, k _ _ (.inl rfl) e, c⟩, r⟩
  | rng lo hi => obtain ⟨t, u, v, e⟩ := x; exact ⟨t, u, v, k _ _ (.inl rfl) e⟩
  | frz ob u ih => obtain ⟨e, q⟩ := x; exact ⟨k _ _ (.inl rfl) e, ih q⟩
  | tbl ps =>
    have e : h.get? a = some { cls := .none, data := .fields ps } := x
    show h'.get? a = some { cls := .none, data := .fields ps }
    exact k a _ (.inl rfl) e
  | met f y =>
    have e : h.get? a = some (PySem.W.methodObj (.ref f) (.ref y)) := x
    show h'.get? a = some (PySem.W.methodObj (.ref f) (.ref y))
    exact k a _ (.inl rfl) e
  | ext φ => obtain ⟨p, ⟨o, e⟩, st⟩ := x; exact ⟨st _ _ p fun o q => k _ _ (.inl rfl) q, ⟨o, k _ _ (.inl rfl) e⟩, st⟩
theorem HOk.lt (x : HOk P w H h) (e : H a = some o) : a < h.objs.size := (x a o e).lt
theorem HOk.fresh (x : HOk P w H h) (e : h.objs.size ≤ a) : H a = none := by
  cases q : H a with
  | none => rfl
  | some u => exact absurd (Nat.lt_of_lt_of_le (x.lt q) e) (Nat.lt_irrefl _)
/-- every object of the heap is kept -/
theorem HOk.kept (x : HOk P w H h) (k : ∀ b u, h.get? b = some u → h'.get? b = some u) : HOk P w H h' := fun a o e =>
  (x a o e).stay (fun b u _ q => k b u q) (fun _ q => q) fun _ _ q => q
/-- a new object is laid and tracked -/
theorem HOk.laid (x : HOk P w H h) (k : ∀ b u, h.get? b = some u → h'.get? b = some u) (hp : h.objs.size ≤ a) (new : ObjOk P w (upd H a o) h' a o) : HOk P w (upd H a o) h' := fun b u e => by
  have hn := x.fresh hp
  by_cases hb : b = a
  · subst hb; rw [upd_same] at e; cases e; exact new
  · rw [upd_ne hb] at e
    exact (x b u e).stay (fun c v _ q => k c v q) (fun c q => by rw [upd_ne (ne_of_none q hn)]; exact q) fun c xs q => by rw [upd_ne (ne_of_none q hn)]; exact q
end

/-- what may be read as u: it is u, or a known u -/
def Rd (H : Hp) (a : Addr) (u : HO) : Prop := H a = some u ∨ ∃ o, H a = some (.frz o u)
theorem Rd.ok {P : Program} {w : World} {H : Hp} {h : Heap} {a : Addr} {u : HO} (r : Rd H a u) (x : HOk P w H h) : ObjOk P w H h a u := by
  rcases r with r | ⟨o, r⟩
  · exact x a u r
  · obtain ⟨_, q⟩ := x a _ r
    exact q
/-- what may be written -/
def Mut : Option HO → Prop
  | some (.lst _) => True
  | some (.dK _) => True
  | some (.dT _) => True
  | some (.set _ _) => True
  | some (.ins _ _ _) => True
  | some (.ext _) => True
  | _ => False
section
variable {P : Program} {w : World} {H : Hp} {h h' : Heap} {x e : Addr} {o' : HO}
/-- the object at e is changed: x itself, or the dict of the instance x -/
theorem HOk.write (ok : HOk P w H h) (mu : Mut (H x)) (he : e = x ∨ H e = some (.own x)) (k : ∀ b u, b ≠ e → h.get? b = some u → h'.get? b = some u) (heo : ∃ u, h'.get? e = some u)
    (new : ObjOk P w (upd H x o') h' x o') : HOk P w (upd H x o') h' := fun b u q => by
  have nown : ∀ c y, H c = some (.own y) → c ≠ x := fun c y r z => by subst z; rw [r] at mu; exact mu
  have ntup : ∀ c xs, H c = some (.tup xs) → c ≠ x := fun c xs r z => by subst z; rw [r] at mu; exact mu
  by_cases hb : b = x
  · subst hb; rw [upd_same] at q; cases q; exact new
  · rw [upd_ne hb] at q
    by_cases hbe : b = e
    · have q' : H b = some (.own x) := by
        rcases he with z | z
        · exact absurd (hbe.trans z) hb
        · rw [hbe]; exact z
      rw [q] at q'; cases q'
      obtain ⟨v, hv⟩ := heo
      exact ⟨v, by rw [hbe]; exact hv⟩
    · refine (ok b u q).stay (fun c v hc r => k c v ?_ r) (fun c r => by rw [upd_ne (nown c b r)]; exact r) fun c xs r => by rw [upd_ne (ntup c xs r)]; exact r
      rcases hc with rfl | hc
      · exact hbe
      · rintro rfl
        rcases he with z | z
        · exact nown c b hc z
        · rw [hc] at z; cases z; exact hb rfl
end

/-! ### kept unless tracked; of the frames at fs (the callers') the slots may change (an exception that passes writes there); of the records at ex (iterators) nothing is said -/
structure Un (fs ex : List Addr) (H H' : Hp) (h h' : Heap) : Prop where
  keep : ∀ b o, h.get? b = some o → H b = none → b ∉ fs → b ∉ ex → h'.get? b = some o
  slot : ∀ b o, h.get? b = some o → H b = none → b ∈ fs → b ∉ ex → ∃ sl, h'.get? b = some { o with slots := sl }
  free : ∀ b o, h.get? b = some o → H b = none → b ∉ ex → H' b = none
  there : ∀ b o, h.get? b = some o → b ∉ ex → ∃ o', h'.get? b = some o'
  tups : ∀ b xs, H b = some (.tup xs) → H' b = some (.tup xs)
  frzs : ∀ b o u, H b = some (.frz o u) → H' b = some (.frz o u)
  tbls : ∀ b ps, H b = some (.tbl ps) → ∃ more, H' b = some (.tbl (ps ++ more))
section
variable {fs fs' ex ex' : List Addr} {H H1 H2 : Hp} {h h1 h2 h' : Heap} {a x e : Addr} {o : HO}
theorem Un.any (u : Un fs ex H H1 h h1) {b : Addr} {ob : Obj} (q : h.get? b = some ob) (n : H b = none) (hx : b ∉ ex) : ∃ sl, h1.get? b = some { ob with slots := sl } := by
  by_cases hb : b ∈ fs
  · exact u.slot b ob q n hb hx
  · exact ⟨ob.slots, u.keep b ob q n hb hx⟩
theorem Un.kept (k : ∀ b u, h.get? b = some u → h'.get? b = some u) : Un fs ex H H h h' :=
  ⟨fun b ob q _ _ _ => k b ob q, fun b ob q _ _ _ => ⟨ob.slots, k b ob q⟩, fun _ _ _ n _ => n, fun b ob q _ => ⟨ob, k b ob q⟩, fun _ _ q => q, fun _ _ _ q => q, fun _ ps q => ⟨#[], by rw [q]; simp⟩⟩
theorem Un.refl : Un fs ex H H h h := Un.kept fun _ _ q => q
theorem Un.laid (k : ∀ b u, h.get? b = some u → h'.get? b = some u) (hp : h.objs.size ≤ a) (hn : H a = none) : Un fs ex H (upd H a o) h h' where
  keep := fun b u q _ _ _ => k b u q
  slot := fun b u q _ _ _ => ⟨u.slots, k b u q⟩
  free := fun b u q n _ => by rw [upd_ne (Nat.ne_of_lt (Nat.lt_of_lt_of_le (Heap.lt_size q) hp))]; exact n
  there := fun b u q _ => ⟨u, k b u q⟩
  tups := fun b xs q => by rw [upd_ne (ne_of_none q hn)]; exact q
  frzs := fun b u xs q => by rw [upd_ne (ne_of_none q hn)]; exact q
  tbls := fun b ps q => ⟨#[], by rw [upd_ne (ne_of_none q hn), q]; simp⟩
theorem Un.write (mu : Mut (H x)) (he : e = x ∨ H e = some (.own x)) (k : ∀ b u, b ≠ e → h.get? b = some u → h'.get? b = some u) (heo : ∃ u, h'.get? e = some u) : Un fs ex H (upd H x o) h h' := by
  have hx : ∀ b, H b = none → b ≠ x := fun b n z => by subst z; rw [n] at mu; exact mu
  have hb : ∀ b, H b = none → b ≠ e := fun b n z => by
    subst z
    rcases he with r | r
    · exact hx b n r
    · rw [n] at r; cases r
  have hm : ∀ b u, H b = some u → ¬ Mut (some u) → b ≠ x := fun b u q nm z => by subst z; rw [q] at mu; exact nm mu
  refine ⟨fun b u q n _ _ => k b u (hb b n) q, fun b u q n _ _ => ⟨u.slots, k b u (hb b n) q⟩, fun b u q n _ => by rw [upd_ne (hx b n)]; exact n, fun b u q _ => ?_,
    fun b xs q => by rw [upd_ne (hm b _ q fun z => z)]; exact q, fun b u xs q => by rw [upd_ne (hm b _ q fun z => z)]; exact q, fun b ps q => ⟨#[], by rw [upd_ne (hm b _ q fun z => z), q]; simp⟩⟩
  by_cases hbe : b = e
  · subst hbe; exact heo
  · exact ⟨u, k b u hbe q⟩
end

/-! ### the heap without what is tracked -/
def trk (h : Heap) (H : Hp) : List Addr := (List.range h.objs.size).filter fun a => (H a).isSome
def hidT (h : Heap) (H : Hp) : Heap := PySem.W.hideAll h (trk h H)
theorem hidT_size (h : Heap) (H : Hp) : (hidT h H).objs.size = h.objs.size := PySem.W.hideAll_size _ _
theorem hidT_get {h : Heap} {H : Hp} {b : Addr} {o : Obj} (e : h.get? b = some o) (n : H b = none) : (hidT h H).get? b = some o :=
  PySem.W.hideAll_get _ e fun hm => by
    have q : (H b).isSome = true := (List.mem_filter.mp hm).2
    rw [n] at q; simp at q
theorem of_hidT {h : Heap} {H : Hp} {b : Addr} {o : Obj} (e : (hidT h H).get? b = some o) : h.get? b = some o ∧ H b = none := by
  have e' : h.get? b = some o := PySem.W.of_hideAll (trk h H) e
  refine ⟨e', ?_⟩
  cases q : H b with
  | none => rfl
  | some x =>
    have hm : b ∈ trk h H := List.mem_filter.mpr ⟨List.mem_range.mpr (Heap.lt_size e'), by simp [q]⟩
    have z : (hidT h H).get? b = none := PySem.W.hideAll_none (trk h H) hm
    rw [z] at e; cases e

/-! ### OpenK's ledger, filled with every new object but one -/
end L2

namespace L2
open PySem PySem.Spec PyProof.Rows

/-- the module's facts, over the base: the heap at the law's entry without what is tracked there -/
structure Mod (K : PySem.W.Frag) (mg : Str → Option Value) (base : Heap) : Prop where
  kin : K.In base
  glob : base.Ns mainGlobals mg
  blt : ∃ mb, base.Ns builtinsNs mb ∧ ∀ x : Str, x ≠ "__name__" → mb x = bootBuiltins x
  nolimit : base.NoLimit

/-- the context: a def's body (or a comprehension's block) running. base: fixed through the whole law; s₀, H₀: the entry; outer: the frames whose slots others may change (a def's callers); stack: all frames that run;
   ex: iterators that were made ahead of the entry and are walked here (a comprehension's); fn: the names whose cells were made at the entry (a def: all; a comprehension's block: its own); calm: not within an except suite; pn: pins that every state bears; xe: what is wanted of an exception that leaves the code -/
structure Cx where
  prog : Program
  w : World
  K : PySem.W.Frag
  mg : Str → Option Value
  base : Heap
  A : Around
  N : List Str
  s₀ : Shared
  H₀ : Hp
  env : Env
  outer : List Env
  stack : List Env
  ex : List Addr
  fn : Str → Bool
  calm : Bool
  pn : List (Addr × Obj)
  xe : Value → Shared → Prop
/-- the callers' frames -/
def frs (l : List Env) : List Addr := l.filterMap (·.frame)
abbrev Cx.fs (X : Cx) : List Addr := frs X.outer

def Vis (sc : Scope) (x : Str) : Prop := sc.names.lookup x = some .local ∨ sc.names.lookup x = some .cell ∨ sc.names.lookup x = some .free
def Loc (sc : Scope) (x : Str) : Prop := sc.names.lookup x = some .local ∨ sc.names.lookup x = some .cell
def Look (env : Env) (h : Heap) (m : Str → Option Value) (x : Str) (u : Value) : Prop :=
  (env.kindOf x = some .local ∧ m x = some u) ∨ ((env.kindOf x = some .cell ∨ env.kindOf x = some .free) ∧ ∃ c, env.cells.lookup x = some c ∧ h.IsCell c (some u))

structure Cx.Ok (X : Cx) : Prop where
  mod : Mod X.K X.mg X.base
  kind : X.env.scope.kind = .function
  glob : X.env.globals = mainGlobals
  blt : X.env.builtins = builtinsNs
  above : X.s₀.heap.objs.size ≤ X.env.locals
  inj : ∀ x y c, X.env.cells.lookup x = some c → X.env.cells.lookup y = some c → x = y
  has : ∀ x, (X.env.kindOf x = some .cell ∨ X.env.kindOf x = some .free) → ∃ c, X.env.cells.lookup x = some c
  cab : ∀ x c, X.fn x = true → X.env.cells.lookup x = some c → X.s₀.heap.objs.size ≤ c
  hd : X.calm = true → X.A.handled = none
  frames : X.A.frames = some X.stack
  stk : X.stack = X.outer ∨ (X.stack = X.env :: X.outer ∧ X.env.frame = some X.env.locals)
  exf : ∀ b ∈ X.ex, b ≠ X.env.locals ∧ ∀ x c, X.env.cells.lookup x = some c → c ≠ b
  bs : ∀ b o, X.base.get? b = some o → X.s₀.heap.get? b = some o ∧ X.H₀ b = none
  bsz : X.base.objs.size ≤ X.s₀.heap.objs.size
  noex : ∀ b o, X.base.get? b = some o → b ∉ X.ex
  exfs : ∀ b ∈ X.ex, b ∉ X.fs
  funs : X.s₀.heap.FunFrames X.base X.outer
  frf : ∀ b ∈ X.fs, X.H₀ b = none

structure Inv (X : Cx) (pins : List (Addr × Obj)) (σ : List (Option V)) (H : Hp) (s : Shared) : Prop where
  ok : X.Ok
  os : s.os = X.s₀.os
  bare : AllBare s.gens
  base : Un X.fs X.ex X.H₀ H X.s₀.heap s.heap
  loc : ∃ m, s.heap.Ns X.env.locals m ∧ ∀ (i : Nat) (x : Str) (v : V), X.N[i]? = some x → σ[i]? = some (some v) → Vis X.env.scope x → ∃ u, RelV v u ∧ Look X.env s.heap m x u
  cell : ∀ x c, X.env.cells.lookup x = some c → ∃ v, s.heap.IsCell c v
  free : H X.env.locals = none
  freeC : ∀ x c, X.env.cells.lookup x = some c → H c = none
  pin : ∀ p ∈ X.pn ++ pins, s.heap.get? p.1 = some p.2 ∧ H p.1 = none ∧ p.1 ≠ X.env.locals ∧ p.1 ∉ X.fs ∧ ∀ v, p.2.data ≠ .cell v
  hok : HOk X.prog X.w H s.heap
  len : σ.length = X.N.length

section
variable {X : Cx} {pins : List (Addr × Obj)} {σ : List (Option V)} {H H' : Hp} {s : Shared} {h' : Heap}

theorem Cx.Ok.nofr (ok : X.Ok) {b : Addr} {o : Obj} (e : X.base.get? b = some o) : b ∉ X.fs := fun hb => by
  have := (ok.funs.mem hb).1
  rw [e] at this; cases this
theorem Inv.bs (I : Inv X pins σ H s) : ∀ b o, X.base.get? b = some o → s.heap.get? b = some o ∧ H b = none := fun b o e =>
  ⟨I.base.keep b o (I.ok.bs b o e).1 (I.ok.bs b o e).2 (I.ok.nofr e) (I.ok.noex b o e), I.base.free b o (I.ok.bs b o e).1 (I.ok.bs b o e).2 (I.ok.noex b o e)⟩
theorem Inv.bk (I : Inv X pins σ H s) : ∀ b o, X.base.get? b = some o → s.heap.get? b = some o := fun b o e => (I.bs b o e).1
theorem Inv.mod (I : Inv X pins σ H s) : Mod X.K X.mg X.base := I.ok.mod
theorem Inv.kIn (I : Inv X pins σ H s) : X.K.In s.heap := I.ok.mod.kin.keeps I.bk
theorem Inv.lt (I : Inv X pins σ H s) : X.env.locals < s.heap.objs.size := let ⟨_, hn, _⟩ := I.loc; hn.lt
theorem Inv.sz (I : Inv X pins σ H s) : X.s₀.heap.objs.size ≤ s.heap.objs.size := Nat.le_trans I.ok.above (Nat.le_of_lt I.lt)
theorem Inv.nofs (I : Inv X pins σ H s) {a : Addr} (h : s.heap.objs.size ≤ a) : a ∉ X.fs := fun hb => by
  obtain ⟨_, o, ho, _⟩ := I.ok.funs.mem hb
  exact absurd (Nat.lt_of_lt_of_le (Heap.lt_size ho) (Nat.le_trans I.sz h)) (Nat.lt_irrefl _)
theorem Inv.cne (I : Inv X pins σ H s) : ∀ x c, X.env.cells.lookup x = some c → c ≠ X.env.locals := fun x c e z => by
  obtain ⟨v, o, ho, hd⟩ := I.cell x c e
  obtain ⟨m, ⟨o', es, ep, ho', hd', _⟩, _⟩ := I.loc
  rw [z, ho'] at ho; cases ho; rw [hd'] at hd; cases hd
theorem Inv.funs (I : Inv X pins σ H s) : s.heap.FunFrames X.base X.outer := by
  have all : ∀ (l : List Env), (∀ b ∈ frs l, b ∈ X.fs) → X.s₀.heap.FunFrames X.base l → s.heap.FunFrames X.base l := by
    intro l
    induction l with
    | nil => intro _ _; trivial
    | cons env r ih =>
      intro hs hl
      obtain ⟨hk, ⟨L, o, hf, hn, ho, hd⟩, hr⟩ := hl
      have hL : L ∈ X.fs := hs L (by unfold frs; rw [List.filterMap_cons, hf]; exact List.mem_cons_self)
      obtain ⟨sl, e⟩ := I.base.slot L o ho (I.ok.frf L hL) hL fun z => I.ok.exfs L z hL
      exact ⟨hk, ⟨L, _, hf, hn, e, hd⟩, ih (fun b hb => hs b (by unfold frs; rw [List.filterMap_cons, hf]; exact List.mem_cons_of_mem _ hb)) hr⟩
  exact all X.outer (fun _ hb => hb) I.ok.funs

/-- the frames that run, for a call -/
theorem Inv.stack (I : Inv X pins σ H s) : s.heap.FunFrames X.base X.stack := by
  rcases I.ok.stk with e | ⟨e, hf⟩
  · rw [e]; exact I.funs
  · rw [e]
    obtain ⟨m, hn, _⟩ := I.loc
    refine .cons (by rw [I.ok.kind]; decide) hf hn ?_ I.funs
    exact Heap.get?_none_of_le (Nat.le_trans I.ok.bsz I.ok.above)
theorem Inv.stkSub (I : Inv X pins σ H s) : ∀ b ∈ frs X.stack, b ∈ X.env.locals :: X.fs := fun b hb => by
  rcases I.ok.stk with e | ⟨e, hf⟩
  · rw [e] at hb; exact List.mem_cons_of_mem _ hb
  · rw [e] at hb
    unfold frs at hb
    rw [List.filterMap_cons, hf] at hb
    exact hb
theorem Inv.stkFree (I : Inv X pins σ H s) : ∀ b ∈ frs X.stack, H b = none := fun b hb => by
  rcases List.mem_cons.mp (I.stkSub b hb) with e | hb
  · rw [e]; exact I.free
  · obtain ⟨_, o, ho, _⟩ := I.ok.funs.mem hb
    exact I.base.free b o ho (I.ok.frf b hb) fun z => I.ok.exfs b z hb

/-- THE STEP: the untracked objects but the frame and the records at ch are kept (the callers' frames up to slots), the frame's map is kept, the new abstract heap is held -/
theorem Inv.step {g' : Array GenState} {t' : Nat} {d' : Drawn} {ch : List Addr} (I : Inv X pins σ H s)
    (hch : ∀ b ∈ ch, (b ∈ X.ex ∨ X.s₀.heap.objs.size ≤ b) ∧ b ≠ X.env.locals ∧ (∀ x c, X.env.cells.lookup x = some c → c ≠ b) ∧ ∀ p ∈ X.pn ++ pins, p.1 ≠ b)
    (keep : ∀ b o, b ≠ X.env.locals → b ∉ X.fs → b ∉ ch → s.heap.get? b = some o → H b = none → h'.get? b = some o)
    (slot : ∀ b o, b ≠ X.env.locals → b ∈ X.fs → b ∉ ch → s.heap.get? b = some o → H b = none → ∃ sl, h'.get? b = some { o with slots := sl }) (free : ∀ b o, b ∉ ch → s.heap.get? b = some o → H b = none → H' b = none)
    (there : ∀ b o, b ∉ ch → s.heap.get? b = some o → ∃ o', h'.get? b = some o')
    (tups : ∀ b xs, H b = some (.tup xs) → H' b = some (.tup xs)) (frzs : ∀ b o u, H b = some (.frz o u) → H' b = some (.frz o u)) (tbls : ∀ b ps, H b = some (.tbl ps) → ∃ more, H' b = some (.tbl (ps ++ more)))
    (ns : ∀ m, s.heap.Ns X.env.locals m → h'.Ns X.env.locals m) (hok : HOk X.prog X.w H' h') (hg : AllBare g') :
    Inv X pins σ H' { s with heap := h', gens := g', drawn := d', toks := t' } := by
  have neL : ∀ b o, X.s₀.heap.get? b = some o → b ≠ X.env.locals := fun b o e => Nat.ne_of_lt (Nat.lt_of_lt_of_le (Heap.lt_size e) I.ok.above)
  have neC : ∀ b o, X.s₀.heap.get? b = some o → b ∉ X.ex → b ∉ ch := fun b o e hx hb => by
    rcases (hch b hb).1 with z | z
    · exact hx z
    · exact absurd (Nat.lt_of_lt_of_le (Heap.lt_size e) z) (Nat.lt_irrefl _)
  have cellK : ∀ x c, X.env.cells.lookup x = some c → ∀ v, s.heap.IsCell c v → h'.IsCell c v := fun x c e v ⟨o, ho, hd⟩ => by
    have nch : c ∉ ch := fun z => (hch c z).2.2.1 x c e rfl
    by_cases hc : c ∈ X.fs
    · obtain ⟨sl, q⟩ := slot c o (I.cne x c e) hc nch ho (I.freeC x c e)
      exact ⟨_, q, hd⟩
    · exact ⟨o, keep c o (I.cne x c e) hc nch ho (I.freeC x c e), hd⟩
  refine ⟨I.ok, I.os, hg, ⟨fun b o e n hb hx => ?_, fun b o e n hb hx => ?_, fun b o e n hx => ?_, fun b o e hx => ?_, fun b xs e => tups b xs (I.base.tups b xs e), fun b o xs e => frzs b o xs (I.base.frzs b o xs e), fun b ps e => ?_⟩, ?_, fun x c e => ?_, ?_, fun x c e => ?_, fun p hp => ?_, hok, I.len⟩
  · exact keep b o (neL b o e) hb (neC b o e hx) (I.base.keep b o e n hb hx) (I.base.free b o e n hx)
  · obtain ⟨sl, e1⟩ := I.base.slot b o e n hb hx
    obtain ⟨sl', e2⟩ := slot b _ (neL b o e) hb (neC b o e hx) e1 (I.base.free b o e n hx)
    exact ⟨sl', e2⟩
  · obtain ⟨o', e1⟩ := I.base.there b o e hx
    exact free b o' (neC b o e hx) e1 (I.base.free b o e n hx)
  · obtain ⟨o', e1⟩ := I.base.there b o e hx
    exact there b o' (neC b o e hx) e1
  · obtain ⟨m1, e1⟩ := I.base.tbls b ps e
    obtain ⟨m2, e2⟩ := tbls b _ e1
    exact ⟨m1 ++ m2, by rw [e2, Array.append_assoc]⟩
  · obtain ⟨m, hn, hl⟩ := I.loc
    refine ⟨m, ns m hn, fun i x v e1 e2 e3 => ?_⟩
    obtain ⟨u, r, l⟩ := hl i x v e1 e2 e3
    refine ⟨u, r, ?_⟩
    rcases l with l | ⟨k, c, e, z⟩
    · exact .inl l
    · exact .inr ⟨k, c, e, cellK x c e _ z⟩
  · obtain ⟨v, z⟩ := I.cell x c e
    exact ⟨v, cellK x c e v z⟩
  · obtain ⟨m, ⟨o, _, _, ho, _⟩, _⟩ := I.loc
    exact free _ o (fun z => (hch _ z).2.1 rfl) ho I.free
  · obtain ⟨v, o, ho, hd⟩ := I.cell x c e
    exact free c o (fun z => (hch c z).2.2.1 x c e rfl) ho (I.freeC x c e)
  · obtain ⟨e, n, ne, nf, d⟩ := I.pin p hp
    have nch : p.1 ∉ ch := fun z => (hch p.1 z).2.2.2 p hp rfl
    exact ⟨keep p.1 p.2 ne nf nch e n, free p.1 p.2 nch e n, ne, nf, d⟩
/-- .. where the frame's own object is kept too -/
theorem Inv.un {t' : Nat} (I : Inv X pins σ H s) (u : Un X.fs [] H H' s.heap h') (hok : HOk X.prog X.w H' h') : Inv X pins σ H' { s with heap := h', toks := t' } := by
  obtain ⟨m, ⟨o, es, ep, ho, r⟩, _⟩ := id I.loc
  obtain ⟨sl, hL⟩ := u.any ho I.free (by simp)
  exact I.step (g' := s.gens) (d' := s.drawn) (ch := []) (fun _ z => nomatch z) (fun b o _ hb _ e n => u.keep b o e n hb (by simp)) (fun b o _ hb _ e n => u.slot b o e n hb (by simp)) (fun b o _ e n => u.free b o e n (by simp)) (fun b o _ e => u.there b o e (by simp)) u.tups u.frzs u.tbls (fun m' hm => by
    obtain ⟨o', es', ep', ho', r'⟩ := hm
    rw [ho] at ho'; cases ho'
    exact ⟨_, es', ep', hL, r'⟩) hok I.bare
/-- behind a call (or a comprehension's block): the slots of this frame may have changed too, the records at ch may have turned -/
theorem Inv.call {g' : Array GenState} {t' : Nat} {d' : Drawn} {ch : List Addr} (I : Inv X pins σ H s) (u : Un (frs X.stack) ch H H' s.heap h') (hok : HOk X.prog X.w H' h') (hg : AllBare g')
    (hch : ∀ b ∈ ch, (b ∈ X.ex ∨ X.s₀.heap.objs.size ≤ b) ∧ b ≠ X.env.locals ∧ (∀ x c, X.env.cells.lookup x = some c → c ≠ b) ∧ ∀ p ∈ X.pn ++ pins, p.1 ≠ b) :
    Inv X pins σ H' { s with heap := h', gens := g', drawn := d', toks := t' } := by
  obtain ⟨m, ⟨o, es, ep, ho, r⟩, _⟩ := id I.loc
  obtain ⟨sl, hL⟩ := u.any ho I.free fun z => (hch _ z).2.1 rfl
  exact I.step (ch := ch) hch (fun b o hL hb hc e n => u.keep b o e n (fun z => (List.mem_cons.mp (I.stkSub b z)).elim hL hb) hc) (fun b o _ _ hc e n => u.any e n hc) (fun b o hc e n => u.free b o e n hc) (fun b o hc e => u.there b o e hc) u.tups u.frzs u.tbls (fun m' hm => by
    obtain ⟨o', es', ep', ho', r'⟩ := hm
    rw [ho] at ho'; cases ho'
    exact ⟨_, es', ep', hL, r'⟩) hok hg
/-- an untracked record of ours (an iterator) has turned -/
theorem Inv.turned {t' : Nat} {it : Addr} (I : Inv X pins σ H s) (k : ∀ b o, b ≠ it → s.heap.get? b = some o → h'.get? b = some o) (hn : H it = none) (hL : it ≠ X.env.locals)
    (h1 : it ∈ X.ex ∨ X.s₀.heap.objs.size ≤ it) (h2 : ∀ x c, X.env.cells.lookup x = some c → c ≠ it) (h3 : ∀ p ∈ X.pn ++ pins, p.1 ≠ it) : Inv X pins σ H { s with heap := h', toks := t' } := by
  have nit : ∀ b u, H b = some u → b ≠ it := fun b u e z => by rw [z, hn] at e; cases e
  refine I.step (g' := s.gens) (d' := s.drawn) (ch := [it]) (fun b hb => ?_) (fun b o _ _ hc e _ => k b o (fun z => hc (by simp [z])) e) (fun b o _ _ hc e _ => ⟨o.slots, k b o (fun z => hc (by simp [z])) e⟩) (fun _ _ _ _ n => n)
    (fun b o hc e => ⟨o, k b o (fun z => hc (by simp [z])) e⟩) (fun _ _ e => e) (fun _ _ _ e => e) (fun b ps e => ⟨#[], by rw [e]; simp⟩) (fun m hm => ?_) (fun b u e => ?_) I.bare
  · have e : b = it := by simpa using hb
    subst e
    exact ⟨h1, hL, h2, h3⟩
  · obtain ⟨o, es, ep, ho, r⟩ := hm
    exact ⟨o, es, ep, k _ o (Ne.symm hL) ho, r⟩
  · refine (I.hok b u e).stay (fun c v hc q => k c v ?_ q) (fun _ q => q) fun _ _ q => q
    rcases hc with z | z
    · rw [z]; exact nit b u e
    · exact nit c _ z
theorem Inv.tok (I : Inv X pins σ H s) (t : Nat) : Inv X pins σ H { s with toks := t } := I.un (h' := s.heap) (t' := t) Un.refl I.hok
/-- all objects kept -/
theorem Inv.kept {t' : Nat} (I : Inv X pins σ H s) (k : ∀ b u, s.heap.get? b = some u → h'.get? b = some u) : Inv X pins σ H { s with heap := h', toks := t' } := I.un (Un.kept k) (I.hok.kept k)
/-- a new object laid and tracked -/
theorem Inv.laid {a : Addr} {o : HO} {t' : Nat} (I : Inv X pins σ H s) (k : ∀ b u, s.heap.get? b = some u → h'.get? b = some u) (hp : s.heap.objs.size ≤ a) (new : ObjOk X.prog X.w (upd H a o) h' a o) :
    Inv X pins σ (upd H a o) { s with heap := h', toks := t' } := I.un (Un.laid k hp (I.hok.fresh hp)) (I.hok.laid k hp new)
/-- an object written -/
theorem Inv.write {x e : Addr} {o : HO} {t' : Nat} (I : Inv X pins σ H s) (mu : Mut (H x)) (he : e = x ∨ H e = some (.own x)) (k : ∀ b u, b ≠ e → s.heap.get? b = some u → h'.get? b = some u) (heo : ∃ u, h'.get? e = some u)
    (new : ObjOk X.prog X.w (upd H x o) h' x o) : Inv X pins σ (upd H x o) { s with heap := h', toks := t' } := I.un (Un.write mu he k heo) (I.hok.write mu he k heo new)
theorem Inv.pins_of {pins' : List (Addr × Obj)} (I : Inv X pins σ H s) (h : ∀ p ∈ pins', s.heap.get? p.1 = some p.2 ∧ H p.1 = none ∧ p.1 ≠ X.env.locals ∧ p.1 ∉ X.fs ∧ ∀ v, p.2.data ≠ .cell v) : Inv X pins' σ H s :=
  ⟨I.ok, I.os, I.bare, I.base, I.loc, I.cell, I.free, I.freeC, fun p hp => (List.mem_append.mp hp).elim (fun z => I.pin p (List.mem_append_left _ z)) (h p), I.hok, I.len⟩

theorem nodup_ix {N : List Str} (hN : N.Nodup) {i j : Nat} {x : Str} (a : N[i]? = some x) (b : N[j]? = some x) : i = j := by
  obtain ⟨h1, e1⟩ := List.getElem?_eq_some_iff.mp a
  obtain ⟨h2, e2⟩ := List.getElem?_eq_some_iff.mp b
  exact (List.getElem_inj hN).mp (e1.trans e2.symm)

/-- a name is stored; what changed -/
theorem store_ok2 {M : Model} {A : Around} {E : Value → Shared → Prop} {i : Nat} {x : Str} {v : V} {u : Value} {Q : Unit → Shared → Prop} (I : Inv X pins σ H s) (hN : X.N.Nodup) (hi : X.N[i]? = some x) (hx : Loc X.env.scope x) (r : RelV v u)
    (h : ∀ s', Inv X pins (σ.set i (some v)) H s' → (∃ a, Heap.SameBut a s.heap s'.heap ∧ (a = X.env.locals ∨ X.env.cells.lookup x = some a)) → Q () s') (hf : X.fn x = true ∨ X.env.scope.names.lookup x = some .local := by first | exact .inl rfl | exact .inr rfl | assumption) : wpAny M A (storeName X.env x u) Q E s := by
  obtain ⟨m, hn, hl⟩ := id I.loc
  have hcls : (X.env.scope.kind == .class || (X.env.scope.kind == .module && X.env.locals != X.env.globals)) = false := by rw [I.ok.kind]; rfl
  have hiσ : i < σ.length := by rw [I.len]; exact (List.getElem?_eq_some_iff.mp hi).1
  have cne := I.cne
  have tracked : ∀ {a : Addr} {h' : Heap}, (∃ o, s.heap.get? a = some o ∧ H a = none) → Heap.SameBut a s.heap h' → HOk X.prog X.w H h' := fun {a h'} ha hs b ob e => by
    obtain ⟨_, _, hfree⟩ := ha
    refine (I.hok b ob e).stay (fun c w' hc q => (hs.2 c ?_).trans q) (fun _ q => q) fun _ _ q => q
    rintro rfl
    rcases hc with rfl | hc
    · rw [hfree] at e; cases e
    · rw [hfree] at hc; cases hc
  rcases hx with hk | hk
  · refine wpAny_storeName_local hk hn (fun h' hn' hs => ?_) hcls
    obtain ⟨oL, _, _, hoL, _⟩ := id hn
    refine h _ ⟨I.ok, I.os, I.bare, ⟨fun b o e n hb hx => ?_, fun b o e n hb hx => ?_, I.base.free, fun b o e hx => ?_, I.base.tups, I.base.frzs, I.base.tbls⟩, ⟨_, hn', fun j y v' e1 e2 e3 => ?_⟩, fun y c e => ?_, I.free, I.freeC, fun p hp => ?_, tracked ⟨oL, hoL, I.free⟩ hs, by simpa using I.len⟩ ⟨_, hs, .inl rfl⟩
    · exact (hs.2 b (Nat.ne_of_lt (Nat.lt_of_lt_of_le (Heap.lt_size e) I.ok.above))).trans (I.base.keep b o e n hb hx)
    · obtain ⟨sl, e1⟩ := I.base.slot b o e n hb hx
      exact ⟨sl, (hs.2 b (Nat.ne_of_lt (Nat.lt_of_lt_of_le (Heap.lt_size e) I.ok.above))).trans e1⟩
    · obtain ⟨o', e1⟩ := I.base.there b o e hx
      exact ⟨o', (hs.2 b (Nat.ne_of_lt (Nat.lt_of_lt_of_le (Heap.lt_size e) I.ok.above))).trans e1⟩
    · by_cases hj : j = i
      · subst hj
        rw [hi] at e1; cases e1
        rw [List.getElem?_set_self hiσ] at e2
        cases e2
        exact ⟨u, r, .inl ⟨hk, by simp⟩⟩
      · rw [List.getElem?_set_ne (Ne.symm hj)] at e2
        obtain ⟨u', r', q⟩ := hl j y v' e1 e2 e3
        refine ⟨u', r', ?_⟩
        rcases q with ⟨k, e⟩ | ⟨k, c, e, z⟩
        · refine .inl ⟨k, ?_⟩
          have : y ≠ x := fun e => hj (nodup_ix hN e1 (e ▸ hi))
          simp [this, e]
        · exact .inr ⟨k, c, e, z.sameBut hs (cne y c e)⟩
    · obtain ⟨w', z⟩ := I.cell y c e
      exact ⟨w', z.sameBut hs (cne y c e)⟩
    · obtain ⟨e, n, ne, nf, d⟩ := I.pin p hp
      exact ⟨(hs.2 p.1 ne).trans e, n, ne, nf, d⟩
  · have hfn : X.fn x = true := by
      rcases hf with z | z
      · exact z
      · rw [z] at hk; cases hk
    obtain ⟨c, hc⟩ := I.ok.has x (.inl hk)
    obtain ⟨w', z⟩ := I.cell x c hc
    refine wpAny_storeName_cell I.ok.kind hk hc z (fun h' hc' hs => ?_)
    obtain ⟨oc, hoc, hocd⟩ := id z
    refine h { s with heap := h' } ⟨I.ok, I.os, I.bare, ⟨fun b o e n hb hx => ?_, fun b o e n hb hx => ?_, I.base.free, fun b o e hx => ?_, I.base.tups, I.base.frzs, I.base.tbls⟩, ⟨m, hn.sameBut hs (Ne.symm (cne x c hc)), fun j y v' e1 e2 e3 => ?_⟩, fun y c' e => ?_, I.free, I.freeC, fun p hp => ?_, tracked ⟨oc, hoc, I.freeC x c hc⟩ hs, by simpa using I.len⟩ ⟨c, hs, .inr hc⟩
    · exact (hs.2 b (Nat.ne_of_lt (Nat.lt_of_lt_of_le (Heap.lt_size e) (I.ok.cab x c hfn hc)))).trans (I.base.keep b o e n hb hx)
    · obtain ⟨sl, e1⟩ := I.base.slot b o e n hb hx
      exact ⟨sl, (hs.2 b (Nat.ne_of_lt (Nat.lt_of_lt_of_le (Heap.lt_size e) (I.ok.cab x c hfn hc)))).trans e1⟩
    · obtain ⟨o', e1⟩ := I.base.there b o e hx
      exact ⟨o', (hs.2 b (Nat.ne_of_lt (Nat.lt_of_lt_of_le (Heap.lt_size e) (I.ok.cab x c hfn hc)))).trans e1⟩
    · by_cases hj : j = i
      · subst hj
        rw [hi] at e1; cases e1
        rw [List.getElem?_set_self hiσ] at e2
        cases e2
        exact ⟨u, r, .inr ⟨.inl hk, c, hc, hc'⟩⟩
      · rw [List.getElem?_set_ne (Ne.symm hj)] at e2
        obtain ⟨u', r', q⟩ := hl j y v' e1 e2 e3
        refine ⟨u', r', ?_⟩
        rcases q with q | ⟨k, c', e, z'⟩
        · exact .inl q
        · refine .inr ⟨k, c', e, z'.sameBut hs ?_⟩
          rintro rfl
          exact hj (nodup_ix hN e1 (I.ok.inj _ _ _ e hc ▸ hi))
    · by_cases hcc : c' = c
      · subst hcc; exact ⟨_, hc'⟩
      · obtain ⟨w2, z2⟩ := I.cell y c' e
        exact ⟨w2, z2.sameBut hs hcc⟩
    · obtain ⟨e, n, ne, nf, d⟩ := I.pin p hp
      refine ⟨(hs.2 p.1 ?_).trans e, n, ne, nf, d⟩
      intro q
      rw [q, hoc] at e
      have q' : oc = p.2 := Option.some.inj e
      exact d w' (by rw [← q']; exact hocd)
theorem store_ok {M : Model} {A : Around} {E : Value → Shared → Prop} {i : Nat} {x : Str} {v : V} {u : Value} {Q : Unit → Shared → Prop} (I : Inv X pins σ H s) (hN : X.N.Nodup) (hi : X.N[i]? = some x) (hx : Loc X.env.scope x) (r : RelV v u)
    (h : ∀ s', Inv X pins (σ.set i (some v)) H s' → Q () s') (hf : X.fn x = true ∨ X.env.scope.names.lookup x = some .local := by first | exact .inl rfl | exact .inr rfl | assumption) : wpAny M A (storeName X.env x u) Q E s :=
  store_ok2 I hN hi hx r (fun s' I' _ => h s' I') hf
/-- behind a call or a block, the state as it is -/
theorem Inv.call' {s' : Shared} {ch : List Addr} (I : Inv X pins σ H s) (ho : s'.os = s.os) (u : Un (frs X.stack) ch H H' s.heap s'.heap) (hok : HOk X.prog X.w H' s'.heap) (hg : AllBare s'.gens)
    (hch : ∀ b ∈ ch, (b ∈ X.ex ∨ X.s₀.heap.objs.size ≤ b) ∧ b ≠ X.env.locals ∧ (∀ x c, X.env.cells.lookup x = some c → c ≠ b) ∧ ∀ p ∈ X.pn ++ pins, p.1 ≠ b) : Inv X pins σ H' s' := by
  obtain ⟨h', g', d', t', o'⟩ := s'
  have e : o' = s.os := ho
  subst e
  exact I.call (g' := g') (t' := t') (d' := d') u hok hg hch
end

/-! ### the judgements -/
/-- an exception: its class, its own dict's address (where it has one), the abstract heap behind it -/
abbrev XK := Value → Option Addr → Hp → Prop
abbrev St := List (Option V)
abbrev VK := V → Hp → Prop
/-- an expression's reading; a test's; an argument list's -/
abbrev TE := St → Hp → VK → Prop
abbrev TT := St → Hp → (Bool → Hp → Prop) → Prop
abbrev TA := St → Hp → (List V → Hp → Prop) → Prop
/-- what is wanted behind a statement -/
structure Ends where
  nx : St → Hp → Prop
  rt : VK
  bk : St → Hp → Prop := fun _ _ => False
  ct : St → Hp → Prop := fun _ _ => False
abbrev TS := Ends → St → Hp → Prop

def EP (X : Cx) (pins : List (Addr × Obj)) (σ : St) (Q : VK) (u : Value) (s' : Shared) : Prop := ∃ v H', Inv X pins σ H' s' ∧ RelV v u ∧ Q v H'
def TP (X : Cx) (pins : List (Addr × Obj)) (σ : St) (Q : Bool → Hp → Prop) (b : Bool) (s' : Shared) : Prop := ∃ H', Inv X pins σ H' s' ∧ Q b H'
def AP (X : Cx) (pins : List (Addr × Obj)) (σ : St) (Q : List V → Hp → Prop) (us : List Value) (s' : Shared) : Prop := ∃ vs H', Inv X pins σ H' s' ∧ Vals vs us ∧ Q vs H'
def SP (X : Cx) (pins : List (Addr × Obj)) (D : Ends) (f : Flow) (s' : Shared) : Prop :=
  match f with
  | .next => ∃ σ' H', Inv X pins σ' H' s' ∧ D.nx σ' H'
  | .brk => ∃ σ' H', Inv X pins σ' H' s' ∧ D.bk σ' H'
  | .cont => ∃ σ' H', Inv X pins σ' H' s' ∧ D.ct σ' H'
  | .ret u => ∃ v σ' H', Inv X pins σ' H' s' ∧ RelV v u ∧ D.rt v H'

def PE (X : Cx) (e : Expr) (t : TE) : Prop :=
  ∀ (pins : List (Addr × Obj)) (s : Shared) (σ : St) (H : Hp) (Q : VK), Inv X pins σ H s → t σ H Q → wpAny (model X.prog X.w) X.A (eval e X.env) (EP X pins σ Q) X.xe s
def PT (X : Cx) (e : Expr) (t : TT) : Prop :=
  ∀ (pins : List (Addr × Obj)) (s : Shared) (σ : St) (H : Hp) (Q : Bool → Hp → Prop), Inv X pins σ H s → t σ H Q → wpAny (model X.prog X.w) X.A (isTrue e X.env (eval e X.env)) (TP X pins σ Q) X.xe s
/-- a test whatever its 'whole' is (and, or) -/
def PW (X : Cx) (e : Expr) (t : TT) : Prop :=
  ∀ (whole : Sem Value) (pins : List (Addr × Obj)) (s : Shared) (σ : St) (H : Hp) (Q : Bool → Hp → Prop), Inv X pins σ H s → t σ H Q → wpAny (model X.prog X.w) X.A (isTrue e X.env whole) (TP X pins σ Q) X.xe s
theorem PW.pt {X : Cx} {e : Expr} {t : TT} (h : PW X e t) : PT X e t := h _
/-- an argument list (no star), from the left -/
def PA (X : Cx) (es : List Expr) (t : TA) : Prop :=
  ∀ (pos : Pos) (pins : List (Addr × Obj)) (s : Shared) (σ : St) (H : Hp) (Q : List V → Hp → Prop), Inv X pins σ H s → t σ H Q → wpAny (model X.prog X.w) X.A (spliced (backTo pos (starEach es X.env))) (AP X pins σ Q) X.xe s
def PS (X : Cx) (st : Stmt) (t : TS) : Prop :=
  ∀ (pins : List (Addr × Obj)) (s : Shared) (σ : St) (H : Hp) (D : Ends), Inv X pins σ H s → t D σ H → wpAny (model X.prog X.w) X.A (exec st X.env) (SP X pins D) X.xe s
def PSs (X : Cx) (st : List Stmt) (t : TS) : Prop :=
  ∀ (pins : List (Addr × Obj)) (s : Shared) (σ : St) (H : Hp) (D : Ends), Inv X pins σ H s → t D σ H → wpAny (model X.prog X.w) X.A (execs st X.env) (SP X pins D) X.xe s
/-- weaken the end -/
theorem thn {α : Type} {t : Sem α} {Q Q' : α → Shared → Prop} {M : Model} {A : Around} {E : Value → Shared → Prop} {s : Shared} (h : wpAny M A t Q E s) (hQ : ∀ a s, Q a s → Q' a s) : wpAny M A t Q' E s := wpAny_mono h hQ fun _ _ x => x
end L2

namespace L2
open PySem PySem.Spec PyProof.Rows
section
variable {X : Cx}


/-! ### names and constants -/
def tVar (i : Nat) : TE := fun σ H Q => ∃ v, σ[i]? = some (some v) ∧ Q v H
def tC (v : V) : TE := fun _ H Q => Q v H
theorem pe_var {i : Nat} {x : Str} {pos : Pos} (hN : X.N[i]? = some x) (hv : Vis X.env.scope x) (hd : (x == ("__debug__" : Str)) = false := by decide) (hcd : (x == ("__classdict__" : Str)) = false := by decide) : PE X (.Name x pos) (tVar i) := by
  intro pins s σ H Q I h
  obtain ⟨v, e, h⟩ := h
  obtain ⟨m, hn, hl⟩ := I.loc
  obtain ⟨u, r, l⟩ := hl i x v hN e hv
  have fin : EP X pins σ Q u s := ⟨v, H, I, r, h⟩
  rcases l with ⟨hk, hm⟩ | ⟨hk, c, hc, hcell⟩
  · exact wpAny_Name (wpAny_loadName_local I.ok.kind hk hn hm fin) hd
  · rcases hk with hk | hk
    · exact wpAny_Name (wpAny_loadName_cell I.ok.kind hk hc hcell fin) hd
    · exact wpAny_Name (wpAny_loadName_free I.ok.kind hk hc hcell fin hcd) hd
theorem pe_int {i j pos} : PE X (.Constant (.int i) j pos) (tC (.int i)) := fun _ _ _ H _ I h => wpAny_Constant_int ⟨.int i, H, I.tok _, ⟨_, rfl⟩, h⟩
theorem pe_bl {b j pos} : PE X (.Constant (.bool b) j pos) (tC (.bl b)) := fun _ _ _ H _ I h => Constant_bool ⟨.bl b, H, I, rfl, h⟩
theorem pe_non {j pos} : PE X (.Constant .none j pos) (tC .non) := fun _ _ _ H _ I h => Constant_none ⟨.non, H, I, rfl, h⟩
theorem pe_str {x j pos} : PE X (.Constant (.str x) j pos) (tC (.str x)) := fun _ _ _ H _ I h => Calls.Constant_str ⟨.str x, H, I.tok _, ⟨_, rfl⟩, h⟩

/-- a global name of the def -/
def Gl (X : Cx) (x : Str) : Prop := X.env.kindOf x = some .globalImplicit
theorem ld_glob {E : Value → Shared → Prop} {pins : List (Addr × Obj)} {s : Shared} {σ : St} {H : Hp} {x : Str} {u : Value} {pos : Pos} {Q : Value → Shared → Prop} (I : Inv X pins σ H s) (hg : Gl X x) (hm : X.mg x = some u) (h : Q u s)
    (hd : (x == ("__debug__" : Str)) = false := by decide) : wpAny (model X.prog X.w) X.A (eval (.Name x pos) X.env) Q E s :=
  Calls.Name_function_global I.ok.kind hg (Calls.loadGlobal_global (by rw [I.ok.glob]; exact I.mod.glob.keeps I.bk) hm h) hd
theorem ld_blt {E : Value → Shared → Prop} {pins : List (Addr × Obj)} {s : Shared} {σ : St} {H : Hp} {x : Str} {u : Value} {pos : Pos} {Q : Value → Shared → Prop} (I : Inv X pins σ H s) (hg : Gl X x) (hm : X.mg x = none) (hv : bootBuiltins x = some u) (h : Q u s)
    (hn : x ≠ "__name__" := by decide) (hd : (x == ("__debug__" : Str)) = false := by decide) : wpAny (model X.prog X.w) X.A (eval (.Name x pos) X.env) Q E s := by
  obtain ⟨mb, h1, h2⟩ := I.mod.blt
  exact Calls.Name_function_global I.ok.kind hg (Calls.loadGlobal_builtin (by rw [I.ok.glob]; exact I.mod.glob.keeps I.bk) hm (by rw [I.ok.blt]; exact h1.keeps I.bk) ((h2 x hn).trans hv) h) hd
/-- a module's constant, a class, a function, as a value -/
theorem pe_glob {x : Str} {v : V} {u : Value} {pos : Pos} (hg : Gl X x) (hm : X.mg x = some u) (r : RelV v u) (hd : (x == ("__debug__" : Str)) = false := by decide) : PE X (.Name x pos) (tC v) :=
  fun _ _ _ H _ I h => ld_glob I hg hm ⟨v, H, I, r, h⟩ hd
theorem pe_bltn {x : Str} {v : V} {u : Value} {pos : Pos} (hg : Gl X x) (hm : X.mg x = none) (hv : bootBuiltins x = some u) (r : RelV v u) (hn : x ≠ "__name__" := by decide) (hd : (x == ("__debug__" : Str)) = false := by decide) : PE X (.Name x pos) (tC v) :=
  fun _ _ _ H _ I h => ld_blt I hg hm hv ⟨v, H, I, r, h⟩ hn hd

/-! ### arithmetic -/
variable {a b : Expr} {ta tb : TE} {pos : Pos}

/-! ### comparisons -/
/-- a comparison as a value, as a test -/
def tB (t : TE) : TT := fun σ H Q => t σ H fun x H1 => ∃ c, x = .bl c ∧ Q c H1
/-- an expression whose value is a bool, as a test -/
theorem pt_val {e : Expr} {t : TE} (h : PE X e t) (he : ∀ whole, isTrue e X.env whole = (do let v ← whole; standAt e.pos; holding [v] (truthy v)) := by intro _; rfl) : PT X e (tB t) := by
  intro pins s σ H Q I hw
  refine isTrue_plain (thn (h pins s σ H _ I hw) fun v s1 ⟨x, H1, I1, r1, q1⟩ => ?_) (he _)
  obtain ⟨d, rfl, q⟩ := q1
  cases r1
  exact wpAny_truthy_bool ⟨H1, I1, q⟩

/-! ### and, or, not -/
variable {tA tB' : TT} {rest : List Expr}
def tAnd (t u : TT) : TT := fun σ H Q => t σ H fun c H1 => if c = true then u σ H1 Q else Q false H1
def tOr (t u : TT) : TT := fun σ H Q => t σ H fun c H1 => if c = true then Q true H1 else u σ H1 Q
def tNot (t : TT) : TT := fun σ H Q => t σ H fun c H1 => Q (!c) H1
theorem pw_and1 (ha : PT X a tA) : PW X (.BoolOp .And [a] pos) tA := by
  intro wh pins s σ H Q I h
  refine isTrue_and (thn (ha pins s σ H Q I h) fun c s1 e => ?_)
  cases c with
  | true => exact isTrue_and_nil e
  | false => exact e
theorem pw_or1 (ha : PT X a tA) : PW X (.BoolOp .Or [a] pos) tA := by
  intro wh pins s σ H Q I h
  refine isTrue_or (thn (ha pins s σ H Q I h) fun c s1 e => ?_)
  cases c with
  | false => exact isTrue_or_nil e
  | true => exact e
theorem pw_and (ha : PT X a tA) (hb : PW X (.BoolOp .And (b :: rest) pos) tB') : PW X (.BoolOp .And (a :: b :: rest) pos) (tAnd tA tB') := by
  intro wh pins s σ H Q I h
  refine isTrue_and (thn (ha pins s σ H _ I h) fun c s1 ⟨H1, I1, q1⟩ => ?_)
  cases c with
  | true => exact hb wh pins s1 σ H1 Q I1 q1
  | false => exact ⟨H1, I1, q1⟩
theorem pw_or (ha : PT X a tA) (hb : PW X (.BoolOp .Or (b :: rest) pos) tB') : PW X (.BoolOp .Or (a :: b :: rest) pos) (tOr tA tB') := by
  intro wh pins s σ H Q I h
  refine isTrue_or (thn (ha pins s σ H _ I h) fun c s1 ⟨H1, I1, q1⟩ => ?_)
  cases c with
  | true => exact ⟨H1, I1, q1⟩
  | false => exact hb wh pins s1 σ H1 Q I1 q1
theorem pt_not (ha : PT X a tA) : PT X (.UnaryOp .Not a pos) (tNot tA) := by
  intro pins s σ H Q I h
  exact isTrue_not (ha pins s σ H (fun c H1 => Q (!c) H1) I h)
end
end L2

namespace L2
open PySem PySem.Spec PyProof.Rows

/-! ### a list, a tuple that is read: tracked, frozen, or an object of the module -/
def SqL (K : PySem.W.Frag) (H : Hp) (a : Addr) (xs : List V) : Prop :=
  Rd H a (.lst xs) ∨
    ∃ (o : Obj) (its : Array Value) (n : Nat), K.lookup a = some o ∧ o.cls = .type "list" ∧ o.dict = none ∧ o.data = .seq its n ∧ its.size ≤ sizeLine ∧ Vals xs its.toList
def SqT (K : PySem.W.Frag) (H : Hp) (a : Addr) (xs : List V) : Prop :=
  Rd H a (.tup xs) ∨
    ∃ (o : Obj) (its : Array Value) (n : Nat), K.lookup a = some o ∧ o.cls = .type "tuple" ∧ o.data = .seq its n ∧ its.size ≤ sizeLine ∧ Vals xs its.toList
def absV : Value → Option V
  | .none => some .non
  | .bool b => some (.bl b)
  | .int i _ => some (.int i)
  | .str x _ => some (.str x)
  | .bytes b _ => some (.byt b)
  | .float b _ => some (.flt b)
  | .ref a => some (.ref a)
  | .type n => some (.ty n)
  | _ => none
theorem RelV.abs {x : V} {u : Value} (r : RelV x u) : absV u = some x := by
  cases x with
  | non => cases r; rfl
  | bl _ => cases r; rfl
  | int _ => obtain ⟨t, rfl⟩ := r; rfl
  | str _ => obtain ⟨t, rfl⟩ := r; rfl
  | byt _ => obtain ⟨t, rfl⟩ := r; rfl
  | flt _ => obtain ⟨t, rfl⟩ := r; rfl
  | ref _ => cases r; rfl
  | ty _ => cases r; rfl
theorem RelV.inj {x y : V} {u : Value} (r : RelV x u) (q : RelV y u) : x = y := Option.some.inj (r.abs.symm.trans q.abs)
theorem Vals.inj : ∀ {xs ys : List V} {us : List Value}, Vals xs us → Vals ys us → xs = ys
  | _, _, _, .nil, .nil => rfl
  | _, _, _, .cons r t, .cons r' t' => by rw [r.inj r', Vals.inj t t']
section
variable {X : Cx} {pins : List (Addr × Obj)} {σ : St} {H : Hp} {s : Shared} {a : Addr} {xs ys : List V}
theorem SqL.of {K : PySem.W.Frag} (h : H a = some (.lst xs)) : SqL K H a xs := .inl (.inl h)
theorem SqT.of {K : PySem.W.Frag} (h : H a = some (.tup xs)) : SqT K H a xs := .inl (.inl h)
theorem Inv.list (I : Inv X pins σ H s) (h : SqL X.K H a xs) : ∃ its : List Value, Vals xs its ∧ PlainL s.heap a its.toArray ∧ xs.length ≤ sizeLine := by
  rcases h with h | ⟨o, its, n, hk, hc, hd, hs, hz, r⟩
  · obtain ⟨z, its, n, r, e⟩ := h.ok I.hok
    exact ⟨its, r, ⟨_, n, e, rfl, rfl, rfl⟩, z⟩
  · refine ⟨its.toList, r, ⟨o, n, I.kIn a o hk, hc, hd, by simpa using hs⟩, ?_⟩
    have e := r.length
    simp only [Array.length_toList] at e
    omega
theorem Inv.tuple (I : Inv X pins σ H s) (h : SqT X.K H a xs) : ∃ its : List Value, Vals xs its ∧ IsTup s.heap a its.toArray ∧ xs.length ≤ sizeLine := by
  rcases h with h | ⟨o, its, n, hk, hc, hs, hz, r⟩
  · obtain ⟨z, its, r, p⟩ := h.ok I.hok
    exact ⟨its, r, p, z⟩
  · refine ⟨its.toList, r, ⟨o, I.kIn a o hk, hc, n, by simpa using hs⟩, ?_⟩
    have e := r.length
    simp only [Array.length_toList] at e
    omega
theorem Inv.list_inj (I : Inv X pins σ H s) (h : SqL X.K H a xs) (h' : SqL X.K H a ys) : xs = ys := by
  obtain ⟨its, r, ⟨o, n, e, _, _, d⟩, _⟩ := I.list h
  obtain ⟨its', r', ⟨o', n', e', _, _, d'⟩, _⟩ := I.list h'
  rw [e] at e'; cases e'
  rw [d] at d'
  injection d' with d1 _
  have : its = its' := by simpa using congrArg Array.toList d1
  subst this
  exact r.inj r'
theorem Inv.tuple_inj (I : Inv X pins σ H s) (h : SqT X.K H a xs) (h' : SqT X.K H a ys) : xs = ys := by
  obtain ⟨its, r, ⟨o, e, _, n, d⟩, _⟩ := I.tuple h
  obtain ⟨its', r', ⟨o', e', _, n', d'⟩, _⟩ := I.tuple h'
  rw [e] at e'; cases e'
  rw [d] at d'
  injection d' with d1 _
  have : its = its' := by simpa using congrArg Array.toList d1
  subst this
  exact r.inj r'
end

/-! ### another wish about exceptions -/
abbrev Cx.wish (X : Cx) (E : Value → Shared → Prop) : Cx := { X with xe := E }
/-- no exception leaves -/
abbrev Cx.nox (X : Cx) : Cx := X.wish fun _ _ => False
theorem Cx.Ok.wish {X : Cx} (ok : X.Ok) (E : Value → Shared → Prop) : (X.wish E).Ok :=
  ⟨ok.mod, ok.kind, ok.glob, ok.blt, ok.above, ok.inj, ok.has, ok.cab, ok.hd, ok.frames, ok.stk, ok.exf, ok.bs, ok.bsz, ok.noex, ok.exfs, ok.funs, ok.frf⟩
theorem Cx.Ok.unwish {X : Cx} {E : Value → Shared → Prop} (ok : (X.wish E).Ok) : X.Ok :=
  ⟨ok.mod, ok.kind, ok.glob, ok.blt, ok.above, ok.inj, ok.has, ok.cab, ok.hd, ok.frames, ok.stk, ok.exf, ok.bs, ok.bsz, ok.noex, ok.exfs, ok.funs, ok.frf⟩
section
variable {X : Cx} {pins : List (Addr × Obj)} {σ : St} {H : Hp} {s : Shared} {E : Value → Shared → Prop}
theorem Inv.wish (I : Inv X pins σ H s) (E : Value → Shared → Prop) : Inv (X.wish E) pins σ H s := ⟨I.ok.wish E, I.os, I.bare, I.base, I.loc, I.cell, I.free, I.freeC, I.pin, I.hok, I.len⟩
theorem Inv.unwish (I : Inv (X.wish E) pins σ H s) : Inv X pins σ H s := ⟨I.ok.unwish, I.os, I.bare, I.base, I.loc, I.cell, I.free, I.freeC, I.pin, I.hok, I.len⟩
theorem SP.unwish {D : Ends} {f : Flow} {s' : Shared} (h : SP (X.wish E) pins D f s') : SP X pins D f s' := by
  cases f with
  | next => obtain ⟨σ', H', I, q⟩ := h; exact ⟨σ', H', I.unwish, q⟩
  | brk => obtain ⟨σ', H', I, q⟩ := h; exact ⟨σ', H', I.unwish, q⟩
  | cont => obtain ⟨σ', H', I, q⟩ := h; exact ⟨σ', H', I.unwish, q⟩
  | ret u => obtain ⟨v, σ', H', I, r, q⟩ := h; exact ⟨v, σ', H', I.unwish, r, q⟩
theorem PSs.nox {st : List Stmt} {t : TS} (h : PSs X.nox st t) : PSs X st t := fun pins s σ H D I hw =>
  wpAny_mono (h pins s σ H D (I.wish _) hw) (fun _ _ q => q.unwish) fun _ _ z => False.elim z
end

/-! ### blocks and small statements -/
section
variable {X : Cx} {st : Stmt} {rest : List Stmt} {t u : TS} {e : Expr} {te : TE} {pos : Pos}
def tNext : TS := fun D σ H => D.nx σ H
def tSeq (t u : TS) : TS := fun D σ H => t { D with nx := u D } σ H
theorem pss_nil : PSs X [] tNext := fun _ _ σ H _ I h => wpAny_execs_nil ⟨σ, H, I, h⟩
theorem pss_cons (h1 : PS X st t) (h2 : PSs X rest u) : PSs X (st :: rest) (tSeq t u) := by
  intro pins s σ H D I h
  refine wpAny_execs_cons (thn (h1 pins s σ H { D with nx := u D } I h) fun f s1 q => ?_)
  cases f with
  | next =>
    obtain ⟨σ', H', I', q⟩ := q
    exact h2 pins s1 σ' H' D I' q
  | ret v => exact q
  | brk => exact q
  | cont => exact q
theorem pss_one (h1 : PS X st t) : PSs X [st] t := by
  intro pins s σ H D I h
  refine wpAny_execs_cons (thn (h1 pins s σ H D I h) fun f s1 q => ?_)
  cases f with
  | next => exact wpAny_execs_nil q
  | ret v => exact q
  | brk => exact q
  | cont => exact q
/-- in a def's body nothing is shown -/
theorem Inv.quiet {pins : List (Addr × Obj)} {σ : St} {H : Hp} {s : Shared} (I : Inv X pins σ H s) : interactive X.env = false := by simp [interactive, I.ok.kind]
/-- an expression whose value is dropped -/
def tDrop (te : TE) : TS := fun D σ H => te σ H fun _ H1 => D.nx σ H1
theorem ps_expr (he : PE X e te) (hs : swapsWith e none pos.line X.env = pure false := by rfl) : PS X (.Expr e pos) (tDrop te) := by
  intro pins s σ H D I h
  exact wpAny_Expr_any (thn (he pins s σ H _ I h) fun v s1 ⟨x, H1, I1, r1, q1⟩ => ⟨σ, H1, I1, q1⟩) I.quiet hs
def tRet (te : TE) : TS := fun D σ H => te σ H D.rt
theorem ps_ret (he : PE X e te) : PS X (.Return (some e) pos) (tRet te) := by
  intro pins s σ H D I h
  exact wpAny_Return_some (thn (he pins s σ H _ I h) fun v s1 ⟨x, H1, I1, r1, q1⟩ => ⟨x, σ, H1, I1, r1, q1⟩)
def tIfS (c : TT) (t u : TS) : TS := fun D σ H => c σ H fun b H1 => if b = true then t D σ H1 else u D σ H1
theorem ps_if {c : Expr} {a b : List Stmt} {tc : TT} (hc : PT X c tc) (ha : PSs X a t) (hb : PSs X b u) : PS X (.If c a b pos) (tIfS tc t u) := by
  intro pins s σ H D I h
  refine wpAny_If (thn (hc pins s σ H _ I h) fun d s1 ⟨H1, I1, q1⟩ => ?_)
  cases d with
  | true => exact ha pins s1 σ H1 D I1 q1
  | false => exact hb pins s1 σ H1 D I1 q1
end

/-! ### targets -/
abbrev TG := V → St → Hp → (St → Hp → Prop) → Prop
abbrev TGs := List V → St → Hp → (St → Hp → Prop) → Prop
def PG (X : Cx) (target : Expr) (t : TG) : Prop :=
  ∀ (pins : List (Addr × Obj)) (s : Shared) (σ : St) (H : Hp) (v : V) (u : Value) (Q : St → Hp → Prop), Inv X pins σ H s → RelV v u → t v σ H Q →
    wpAny (model X.prog X.w) X.A (assign target X.env u) (fun _ s' => ∃ σ' H', Inv X pins σ' H' s' ∧ Q σ' H') X.xe s
/-- several targets, one after another -/
def PGs (X : Cx) (ts : List Expr) (t : TGs) : Prop :=
  ∀ (pins : List (Addr × Obj)) (s : Shared) (σ : St) (H : Hp) (vs : List V) (us : List Value) (Q : St → Hp → Prop), Inv X pins σ H s → Vals vs us → t vs σ H Q →
    wpAny (model X.prog X.w) X.A (assignInOrder ((assignEach ts X.env).map (·.2)) us) (fun _ s' => ∃ σ' H', Inv X pins σ' H' s' ∧ Q σ' H') X.xe s
/-- a op= b, by values -/
abbrev TIp := V → V → Hp → VK → Prop
def PIp (X : Cx) (op : Operator) (t : TIp) : Prop :=
  ∀ (pins : List (Addr × Obj)) (s : Shared) (σ : St) (H : Hp) (x y : V) (v u : Value) (Q : VK), Inv X pins σ H s → RelV x v → RelV y u → t x y H Q →
    wpAny (model X.prog X.w) X.A (inplaceOp op v u) (EP X pins σ Q) X.xe s
section
variable {X : Cx} {pos : Pos}
def gName (i : Nat) : TG := fun v σ H Q => Q (σ.set i (some v)) H
theorem pg_name {i : Nat} {x : Str} (hN : X.N.Nodup) (hi : X.N[i]? = some x) (hx : Loc X.env.scope x) (hf : X.fn x = true ∨ X.env.scope.names.lookup x = some .local := by first | exact .inl rfl | exact .inr rfl | assumption) : PG X (.Name x pos) (gName i) := by
  intro pins s σ H v u Q I r h
  exact wpAny_assign_Name (store_ok I hN hi hx r (fun s' I' => ⟨_, H, I', h⟩) hf)
def gNil : TGs := fun vs σ H Q => vs = [] ∧ Q σ H
def gCons (t : TG) (u : TGs) : TGs := fun vs σ H Q => ∃ v r, vs = v :: r ∧ t v σ H fun σ' H' => u r σ' H' Q
theorem pgs_nil : PGs X [] gNil := by
  intro pins s σ H vs us Q I r h
  obtain ⟨e, h⟩ := h
  subst e
  cases r
  exact assignInOrder_nil ⟨σ, H, I, h⟩
theorem pgs_cons {e : Expr} {es : List Expr} {t : TG} {u : TGs} (h1 : PG X e t) (h2 : PGs X es u)
    (hs : (assignEach (e :: es) X.env).map (·.2) = assign e X.env :: (assignEach es X.env).map (·.2) := by rfl) : PGs X (e :: es) (gCons t u) := by
  intro pins s σ H vs us Q I r h
  obtain ⟨v, vr, e1, h⟩ := h
  subst e1
  cases r with
  | cons r rr =>
    rw [hs]
    refine assignInOrder_cons (thn (h1 pins s σ H _ _ _ I r h) fun _ s1 ⟨σ1, H1, I1, q1⟩ => ?_)
    exact h2 pins s1 σ1 H1 _ _ Q I1 rr q1
/-- (a, b, ..) = a tuple of that length -/
def gTup (K : PySem.W.Frag) (n : Nat) (t : TGs) : TG := fun v σ H Q => ∃ a xs, v = .ref a ∧ SqT K H a xs ∧ xs.length = n ∧ t xs σ H Q
theorem pg_tup {es : List Expr} {k : Nat} {t : TGs} {n : Nat} (hc : X.calm = true) (h : PGs X es t)
    (hn : (assignEach es X.env).length = n := by rfl) (hst : (assignEach es X.env).findIdx? (·.1) = none := by rfl) : PG X (.Tuple es k pos) (gTup X.K n t) := by
  intro pins s σ H v u Q I r hw
  obtain ⟨a, xs, e1, hq, hl, hw⟩ := hw
  subst e1
  cases r
  obtain ⟨its, rv, ht, hz⟩ := I.tuple hq
  refine assign_Tuple_tuple (I.ok.hd hc) ht (by simp [hn, ← hl, rv.length]) hst fun h' hx => ?_
  have I1 : Inv X pins σ H { s with heap := h' } := I.kept (t' := s.toks) fun b o e => hx b o (Nat.ne_of_lt (Heap.lt_size e)) e
  exact h pins _ σ H xs _ Q I1 (by simpa using rv) hw
/-- target = value -/
def tAsg (te : TE) (g : TG) : TS := fun D σ H => te σ H fun x H1 => g x σ H1 D.nx
theorem ps_asg {tg e : Expr} {te : TE} {g : TG} (he : PE X e te) (hg : PG X tg g) (hs : swapsWithSole [tg] e pos.line X.env = pure false := by rfl) (hw : swappedStores [tg] e X.env = pure none := by rfl)
    (h1 : (assignEach [tg] X.env).map (·.2) = [assign tg X.env] := by rfl) : PS X (.Assign [tg] e pos) (tAsg te g) := by
  intro pins s σ H D I h
  refine wpAny_Assign_stores (thn (he pins s σ H _ I h) fun v s1 ⟨x, H1, I1, r1, q1⟩ => ?_) hs hw
  rw [h1]
  exact thn (hg pins s1 σ H1 x v _ I1 r1 q1) fun _ s2 q => q
/-- name = value -/
theorem ps_set {i : Nat} {x : Str} {e : Expr} {te : TE} {pos' : Pos} (hN : X.N.Nodup) (hi : X.N[i]? = some x) (hx : Loc X.env.scope x) (he : PE X e te) (hs : swapsWith e (some (.Name x pos')) pos.line X.env = pure false := by rfl) (hf : X.fn x = true ∨ X.env.scope.names.lookup x = some .local := by first | exact .inl rfl | exact .inr rfl | assumption) :
    PS X (.Assign [.Name x pos'] e pos) (tAsg te (gName i)) := by
  intro pins s σ H D I h
  refine wpAny_Assign_Name (thn (he pins s σ H _ I h) fun v s1 ⟨y, H1, I1, r1, q1⟩ => ?_) hs
  exact store_ok I1 hN hi hx r1 (fun s2 I2 => ⟨_, H1, I2, q1⟩) hf
/-- name op= e -/
def tAug (i : Nat) (te : TE) (ti : TIp) : TS := fun D σ H => ∃ x, σ[i]? = some (some x) ∧ te σ H fun y H1 => ti x y H1 fun z H2 => D.nx (σ.set i (some z)) H2
theorem ps_aug {i : Nat} {x : Str} {e : Expr} {te : TE} {op : Operator} {ti : TIp} {pos' : Pos} (hN : X.N.Nodup) (hi : X.N[i]? = some x) (hx : Loc X.env.scope x) (he : PE X e te) (ho : PIp X op ti) (hf : X.fn x = true ∨ X.env.scope.names.lookup x = some .local := by first | exact .inl rfl | exact .inr rfl | assumption) :
    PS X (.AugAssign (.Name x pos') op e pos) (tAug i te ti) := by
  intro pins s σ H D I h
  obtain ⟨v, e1, h⟩ := h
  obtain ⟨m, hn, hl⟩ := I.loc
  have vis : Vis X.env.scope x := by rcases hx with k | k; exact .inl k; exact .inr (.inl k)
  obtain ⟨u, r, l⟩ := hl i x v hi e1 vis
  refine wpAny_AugAssign_Name ?_
  have go : wpAny (model X.prog X.w) X.A (eval e X.env) (fun w s₂ => wpAny (model X.prog X.w) X.A (inplaceOp op u w) (fun r s₃ => wpAny (model X.prog X.w) X.A (storeName X.env x r) (fun _ => SP X pins D .next) X.xe s₃) X.xe s₂) X.xe s := by
    refine thn (he pins s σ H _ I h) fun w s1 ⟨y, H1, I1, r1, q1⟩ => ?_
    refine thn (ho pins s1 σ H1 v y u w _ I1 r r1 q1) fun z s2 ⟨zv, H2, I2, r2, q2⟩ => ?_
    exact store_ok I2 hN hi hx r2 (fun s3 I3 => ⟨_, H2, I3, q2⟩) hf
  rcases l with ⟨hk, hm⟩ | ⟨hk, c, hc, hcell⟩
  · exact wpAny_loadName_local I.ok.kind hk hn hm go
  · rcases hk with hk | hk
    · exact wpAny_loadName_cell I.ok.kind hk hc hcell go
    · rcases hx with k | k
      · have : X.env.scope.names.lookup x = some .free := hk
        rw [k] at this; cases this
      · have : X.env.scope.names.lookup x = some .free := hk
        rw [k] at this; cases this
/-- ints -/
def ipI (f : Int → Int → Int) : TIp := fun x y H Q => ∃ i j, x = .int i ∧ y = .int j ∧ Q (.int (f i j)) H
theorem ip_add : PIp X .Add (ipI fun i j => i + j) := by
  intro pins s σ H x y v u Q I r1 r2 h
  obtain ⟨i, j, e1, e2, q⟩ := h
  subst e1; subst e2
  obtain ⟨t, rfl⟩ := r1
  obtain ⟨t', rfl⟩ := r2
  exact iadd_int ⟨.int _, H, I.tok _, ⟨_, rfl⟩, q⟩
theorem ip_sub : PIp X .Sub (ipI fun i j => i - j) := by
  intro pins s σ H x y v u Q I r1 r2 h
  obtain ⟨i, j, e1, e2, q⟩ := h
  subst e1; subst e2
  obtain ⟨t, rfl⟩ := r1
  obtain ⟨t', rfl⟩ := r2
  exact isub_int ⟨.int _, H, I.tok _, ⟨_, rfl⟩, q⟩
end

/-! ### while -/
section
variable {X : Cx} {pos : Pos}
/-- the invariant W with its measure -/
def tWhile (c : TT) (tb : TS) : TS := fun D σ H => ∃ W : Nat → St → Hp → Prop, (∃ m, W m σ H) ∧ ∀ m σ H, W m σ H →
  c σ H fun b H1 => if b = true then ∃ N : St → Hp → Prop, (∀ σ' H', N σ' H' → ∃ m', m' < m ∧ W m' σ' H') ∧ tb { D with nx := N, ct := N, bk := D.nx } σ H1 else D.nx σ H1
theorem ps_while {c : Expr} {body : List Stmt} {tc : TT} {tb : TS} (hp : PassesOwn (model X.prog X.w) X.A X.env X.xe) (hc : PT X c tc) (hb : PSs X body tb) : PS X (.While c body [] pos) (tWhile tc tb) := by
  intro pins s σ H D I h
  obtain ⟨W, ⟨m0, w0⟩, turn⟩ := h
  refine wpAny_While (codeAny_whileLoop (fun n s' => ∃ σ' H', Inv X pins σ' H' s' ∧ W n σ' H') ?_ m0 ⟨σ, H, I, w0⟩)
  rintro n s1 ⟨σ1, H1, I1, w1⟩
  refine wpAny_passesOwn hp (thn (hc pins s1 σ1 H1 _ I1 (turn n σ1 H1 w1)) fun b s2 ⟨H2, I2, q2⟩ => ?_)
  cases b with
  | true =>
    obtain ⟨N, hN, q2⟩ := q2
    rw [if_pos rfl]
    refine wpAny_passesOwn hp (thn (hb pins s2 σ1 H2 _ I2 q2) fun f s3 q3 => ?_)
    cases f with
    | next =>
      obtain ⟨σ3, H3, I3, n3⟩ := q3
      obtain ⟨m', hm, w3⟩ := hN σ3 H3 n3
      exact ⟨m', hm, σ3, H3, I3, w3⟩
    | cont =>
      obtain ⟨σ3, H3, I3, n3⟩ := q3
      obtain ⟨m', hm, w3⟩ := hN σ3 H3 n3
      exact ⟨m', hm, σ3, H3, I3, w3⟩
    | brk => exact q3
    | ret v => exact q3
  | false =>
    rw [if_neg Bool.false_ne_true]
    exact wpAny_execs_nil ⟨σ1, H2, I2, q2⟩
end

/-! ### what a loop or a comprehension walks -/
/-- at turn i: it yields x (the heap may grow), or it stops -/
structure It where
  go : Nat → Hp → Prop
  yld : Nat → Hp → V → Hp → Prop
  stop : Nat → Hp → Prop
/-- the iterator's own objects may turn: they are not the frame's, not pinned, younger than the entry (or a comprehension's own) -/
def FpOk (X : Cx) (pins : List (Addr × Obj)) (H : Hp) (b : Addr) : Prop :=
  H b = none ∧ b ≠ X.env.locals ∧ b ∉ X.fs ∧ (b ∈ X.ex ∨ X.s₀.heap.objs.size ≤ b) ∧ (∀ x c, X.env.cells.lookup x = some c → c ≠ b) ∧ ∀ p ∈ X.pn ++ pins, p.1 ≠ b
theorem Inv.fpOk {X : Cx} {pins : List (Addr × Obj)} {σ : St} {H H' : Hp} {s : Shared} {b : Addr} (I : Inv X pins σ H s) (hb : s.heap.objs.size ≤ b) (hn : H' b = none) : FpOk X pins H' b := by
  refine ⟨hn, Nat.ne_of_gt (Nat.lt_of_lt_of_le I.lt hb), I.nofs hb, .inr (Nat.le_trans I.sz hb), fun x c e z => ?_, fun p hp z => ?_⟩
  · obtain ⟨v, q⟩ := I.cell x c e
    exact absurd (Nat.lt_of_lt_of_le q.lt (by rw [z]; exact hb)) (Nat.lt_irrefl _)
  · exact absurd (Nat.lt_of_lt_of_le (Heap.lt_size (I.pin p hp).1) (by rw [z]; exact hb)) (Nat.lt_irrefl _)
structure Turn (P : Program) (w : World) (K : PySem.W.Frag) (tg : Expr) (J : It) (fp : List Addr) (it : Addr) (tn : Nat → Heap → Prop) : Prop where
  mem : it ∈ fp
  obj : ∀ i h, tn i h → ∀ b ∈ fp, ∃ o, h.get? b = some o ∧ ∀ v, o.data ≠ .cell v
  keep : ∀ i h h', tn i h → (∀ b ∈ fp, ∀ o, h.get? b = some o → h'.get? b = some o) → tn i h'
  item : ∀ (X : Cx), X.prog = P → X.w = w → X.K = K → X.calm = true → ∀ (i : Nat) (pins : List (Addr × Obj)) (s : Shared) (σ : St) (H : Hp) (E : Value → Shared → Prop), Inv X pins σ H s → (∀ b ∈ fp, FpOk X pins H b) → tn i s.heap → J.go i H →
    wpAny (model P w) X.A (pyNext (.ref it)) (fun r s1 => ∃ u, r = some u ∧
      wpAny (model P w) X.A (letOwnedTupleGo tg (.ref it) u) (fun _ s2 => ∃ x H', Inv X pins σ H' s2 ∧ RelV x u ∧ J.yld i H x H' ∧ tn (i + 1) s2.heap ∧ ∀ b ∈ fp, H' b = none) E s1) E s
  done : ∀ (X : Cx), X.prog = P → X.w = w → X.K = K → X.calm = true → ∀ (i : Nat) (pins : List (Addr × Obj)) (s : Shared) (σ : St) (H : Hp) (E : Value → Shared → Prop), Inv X pins σ H s → (∀ b ∈ fp, FpOk X pins H b) → tn i s.heap → J.stop i H →
    wpAny (model P w) X.A (pyNext (.ref it)) (fun r s1 => r = none ∧ Inv X pins σ H s1) E s
  self : ∀ (A : Around) (i : Nat) (s : Shared) (Q : Value → Shared → Prop) (E : Value → Shared → Prop), tn i s.heap → Q (.ref it) s → wpAny (model P w) A (pyIter (.ref it)) Q E s
abbrev TI := St → Hp → (It → Hp → Prop) → Prop
/-- an iterator has come -/
def PIE (X : Cx) (pins : List (Addr × Obj)) (σ : St) (tg : Expr) (R : It → Hp → Prop) (itv : Value) (s2 : Shared) : Prop :=
  ∃ (it : Addr) (fp : List Addr) (tn : Nat → Heap → Prop) (J : It) (H' : Hp), itv = .ref it ∧ Inv X pins σ H' s2 ∧ Turn X.prog X.w X.K tg J fp it tn ∧ tn 0 s2.heap ∧ (∀ b ∈ fp, FpOk X pins H' b) ∧ R J H'
def PI (X : Cx) (tg iter : Expr) (wi : TI) : Prop :=
  ∀ (pins : List (Addr × Obj)) (s : Shared) (σ : St) (H : Hp) (R : It → Hp → Prop), Inv X pins σ H s → wi σ H R →
    wpAny (model X.prog X.w) X.A (eval iter X.env) (fun v s1 => wpAny (model X.prog X.w) X.A (pyIter v) (PIE X pins σ tg R) X.xe s1) X.xe s

/-- the step ahead of the store is nothing for an iterator that keeps no tuple -/
theorem go_of {M : Model} {A : Around} {E : Value → Shared → Prop} {s : Shared} {tg : Expr} {it : Addr} {u : Value} {o : Obj} {n : String} {vs : Array Value} {Q : Unit → Shared → Prop} (ho : s.heap.get? it = some o) (hc : o.cls = .type n) (hd : o.data = .fields vs)
    (hn : ["enumerate", "zip", "dict_itemiterator", "dict_reverseitemiterator", "odict_iterator", "itertools.zip_longest", "itertools.pairwise"].contains n = false) (hQ : Q () s) : wpAny M A (letOwnedTupleGo tg (.ref it) u) Q E s := by
  unfold letOwnedTupleGo
  cases tg <;> first
    | exact wpAny_pure hQ
    | (cases u <;> first
        | exact wpAny_pure hQ
        | (refine wpAny_bind (wpAny_load ho ?_)
           rw [hc, hd]
           show wpAny M A (if (["enumerate", "zip", "dict_itemiterator", "dict_reverseitemiterator", "odict_iterator", "itertools.zip_longest", "itertools.pairwise"].contains n && vs[0]? == some (rawInt _)) = true then _ else _) Q E s
           rw [if_neg (by intro h; rw [hn, Bool.false_and] at h; cases h)]
           exact wpAny_pure hQ))

/-- the list at a, as it stands at each turn (a loop may append to it) -/
def Itl (K : PySem.W.Frag) (a : Addr) : It :=
  ⟨fun i H => ∃ xs x, SqL K H a xs ∧ xs[i]? = some x, fun i H x H' => H' = H ∧ ∀ xs, SqL K H a xs → xs[i]? = some x, fun i H => ∃ xs, SqL K H a xs ∧ xs.length ≤ i⟩
def Itt (K : PySem.W.Frag) (a : Addr) : It :=
  ⟨fun i H => ∃ xs x, SqT K H a xs ∧ xs[i]? = some x, fun i H x H' => H' = H ∧ ∀ xs, SqT K H a xs → xs[i]? = some x, fun i H => ∃ xs, SqT K H a xs ∧ xs.length ≤ i⟩
/-- lo, lo + 1, .. (n of them) -/
def Itr (lo : Int) (n : Nat) : It := ⟨fun i _ => i < n, fun i H x H' => H' = H ∧ x = .int (lo + i), fun i _ => n ≤ i⟩
theorem turn_list {P : Program} {w : World} {K : PySem.W.Frag} {tg : Expr} (a it : Addr) : Turn P w K tg (Itl K a) [it] it (fun i h => h.IsListIter it a i) where
  mem := by simp
  obj := fun i h st b hb => by
    have e : b = it := by simpa using hb
    subst e
    obtain ⟨o, e, c, d⟩ := st
    exact ⟨o, e, fun v z => by rw [d] at z; cases z⟩
  keep := fun i h h' st k => st.at fun o e => k it (by simp) o e
  item := by
    intro X hP hw hK hc i pins s σ H E I hf st hg
    subst hP hw hK
    obtain ⟨xs, x, hq, hx⟩ := hg
    obtain ⟨its, rv, p, hz⟩ := I.list hq
    obtain ⟨u, hu, ru⟩ := rv.get hx
    obtain ⟨f0, f1, f2, f3, f4, f5⟩ := hf it (by simp)
    refine wpAny_pyNext_list_item st p.isList (x := u) (by simpa using hu) fun h' st' sb => ?_
    have I1 : Inv X pins σ H { s with heap := h' } := I.turned (t' := s.toks) (fun b o hb e => (sb.2 b hb).trans e) f0 f1 f3 f4 f5
    obtain ⟨o, e, c, d⟩ := id st'
    exact ⟨u, rfl, go_of (s := { s with heap := h' }) e c d (by decide) ⟨x, H, I1, ru, ⟨rfl, fun ys hy => by rw [I.list_inj hy hq]; exact hx⟩, st', fun b hb => (hf b hb).1⟩⟩
  done := by
    intro X hP hw hK hc i pins s σ H E I hf st hg
    subst hP hw hK
    obtain ⟨xs, hq, hx⟩ := hg
    obtain ⟨its, rv, p, hz⟩ := I.list hq
    obtain ⟨f0, f1, f2, f3, f4, f5⟩ := hf it (by simp)
    have hl := rv.length
    exact wpAny_pyNext_list_end (I.ok.hd hc) st p.isList (by simp; omega) fun h' eb => ⟨rfl, I.turned (t' := s.toks) (fun b o hb e => eb b o hb e) f0 f1 f3 f4 f5⟩
  self := fun _ _ _ _ _ st h => wpAny_pyIter_listiter st h
theorem turn_tuple {P : Program} {w : World} {K : PySem.W.Frag} {tg : Expr} (a it : Addr) : Turn P w K tg (Itt K a) [it] it (fun i h => h.IsTupleIter it a i) where
  mem := by simp
  obj := fun i h st b hb => by
    have e : b = it := by simpa using hb
    subst e
    obtain ⟨o, e, c, d⟩ := st
    exact ⟨o, e, fun v z => by rw [d] at z; cases z⟩
  keep := fun i h h' st k => st.at fun o e => k it (by simp) o e
  item := by
    intro X hP hw hK hc i pins s σ H E I hf st hg
    subst hP hw hK
    obtain ⟨xs, x, hq, hx⟩ := hg
    obtain ⟨its, rv, p, hz⟩ := I.tuple hq
    obtain ⟨u, hu, ru⟩ := rv.get hx
    obtain ⟨f0, f1, f2, f3, f4, f5⟩ := hf it (by simp)
    refine wpAny_pyNext_tuple_item st (show s.heap.IsTuple a its.toArray from p) (x := u) (by simpa using hu) fun h' st' sb => ?_
    have I1 : Inv X pins σ H { s with heap := h' } := I.turned (t' := s.toks) (fun b o hb e => (sb.2 b hb).trans e) f0 f1 f3 f4 f5
    obtain ⟨o, e, c, d⟩ := id st'
    exact ⟨u, rfl, go_of (s := { s with heap := h' }) e c d (by decide) ⟨x, H, I1, ru, ⟨rfl, fun ys hy => by rw [I.tuple_inj hy hq]; exact hx⟩, st', fun b hb => (hf b hb).1⟩⟩
  done := by
    intro X hP hw hK hc i pins s σ H E I hf st hg
    subst hP hw hK
    obtain ⟨xs, hq, hx⟩ := hg
    obtain ⟨its, rv, p, hz⟩ := I.tuple hq
    obtain ⟨f0, f1, f2, f3, f4, f5⟩ := hf it (by simp)
    have hl := rv.length
    exact wpAny_pyNext_tuple_end (I.ok.hd hc) st (show s.heap.IsTuple a its.toArray from p) (by simp; omega) fun h' eb => ⟨rfl, I.turned (t' := s.toks) (fun b o hb e => eb b o hb e) f0 f1 f3 f4 f5⟩
  self := fun _ _ _ _ _ st h => wpAny_pyIter_tupleiter st h
theorem turn_range {P : Program} {w : World} {K : PySem.W.Frag} {tg : Expr} (it : Addr) (lo : Int) (n : Nat) : Turn P w K tg (Itr lo n) [it] it (fun i h => IsRangeIter h it (lo + (i : Nat) * 1) ((n : Int) - (i : Nat)) 1) where
  mem := by simp
  obj := fun i h st b hb => by
    have e : b = it := by simpa using hb
    subst e
    exact ⟨_, st, fun v z => by
      have z' : Data.fields _ = Data.cell v := z
      cases z'⟩
  keep := fun i h h' st k => k it (by simp) _ st
  item := by
    intro X hP hw hK hc i pins s σ H E I hf st hg
    subst hP hw hK
    obtain ⟨f0, f1, f2, f3, f4, f5⟩ := hf it (by simp)
    have W := Walks.range (prog := X.prog) (w := X.w) (I.ok.hd hc) it lo 1 n
    refine W.item i s _ _ hg st fun v h' tk hv st' kk => ?_
    obtain ⟨t, rfl⟩ := hv
    have I1 : Inv X pins σ H { s with heap := h', toks := tk } := I.turned (fun b o hb e => kk b o (by simpa using hb) e) f0 f1 f3 f4 f5
    refine ⟨_, rfl, go_of (s := { s with heap := h', toks := tk }) (n := "range_iterator") st' rfl rfl (by decide) ⟨.int (lo + i), H, I1, ⟨t, ?_⟩, ⟨rfl, rfl⟩, st', fun b hb => (hf b hb).1⟩⟩
    rw [Int.mul_one]
  done := by
    intro X hP hw hK hc i pins s σ H E I hf st hg
    subst hP hw hK
    obtain ⟨f0, f1, f2, f3, f4, f5⟩ := hf it (by simp)
    exact wpAny_pyNext_range_end (I.ok.hd hc) st (by have : n ≤ i := hg; omega) fun h' eb => ⟨rfl, I.turned (t' := s.toks) (fun b o hb e => eb b o hb e) f0 f1 f3 f4 f5⟩
  self := fun _ _ _ _ _ st h => wpAny_pyIter_rangeiter st h
end L2

namespace L2
open PySem PySem.Spec PyProof.Rows
section
variable {X : Cx} {tg : Expr}
def iList (K : PySem.W.Frag) (tl : TE) : TI := fun σ H R => tl σ H fun x H1 => ∃ a, x = .ref a ∧ (∃ xs, SqL K H1 a xs) ∧ R (Itl K a) H1
def iTup (K : PySem.W.Frag) (tl : TE) : TI := fun σ H R => tl σ H fun x H1 => ∃ a, x = .ref a ∧ (∃ xs, SqT K H1 a xs) ∧ R (Itt K a) H1
theorem pi_list {l : Expr} {tl : TE} (hl : PE X l tl) : PI X tg l (iList X.K tl) := by
  intro pins s σ H R I h
  refine thn (hl pins s σ H _ I h) fun v s1 ⟨x, H1, I1, r1, q1⟩ => ?_
  obtain ⟨a, e, ⟨xs, hq⟩, q⟩ := q1
  subst e
  cases r1
  obtain ⟨its, rv, p, hz⟩ := I1.list hq
  refine wpAny_pyIter_list p.isList ?_
  refine ⟨s1.heap.objs.size, [s1.heap.objs.size], _, _, H1, rfl, I1.kept (t' := s1.toks) fun b o e => Heap.get?_push_of_some _ e, turn_list a _, ⟨_, Heap.get?_push_size _ rfl, rfl, rfl⟩, fun b hb => ?_, q⟩
  have e : b = s1.heap.objs.size := by simpa using hb
  subst e
  exact I1.fpOk (Nat.le_refl _) (I1.hok.fresh (Nat.le_refl _))
theorem pi_tup {l : Expr} {tl : TE} (hl : PE X l tl) : PI X tg l (iTup X.K tl) := by
  intro pins s σ H R I h
  refine thn (hl pins s σ H _ I h) fun v s1 ⟨x, H1, I1, r1, q1⟩ => ?_
  obtain ⟨a, e, ⟨xs, hq⟩, q⟩ := q1
  subst e
  cases r1
  obtain ⟨its, rv, p, hz⟩ := I1.tuple hq
  refine wpAny_pyIter_tuple (show s1.heap.IsTuple a its.toArray from p) ?_
  refine ⟨s1.heap.objs.size, [s1.heap.objs.size], _, _, H1, rfl, I1.kept (t' := s1.toks) fun b o e => Heap.get?_push_of_some _ e, turn_tuple a _, ⟨_, Heap.get?_push_size _ rfl, rfl, rfl⟩, fun b hb => ?_, q⟩
  have e : b = s1.heap.objs.size := by simpa using hb
  subst e
  exact I1.fpOk (Nat.le_refl _) (I1.hok.fresh (Nat.le_refl _))
/-- a range object just made, walked -/
theorem range_it {pins : List (Addr × Obj)} {σ : St} {H : Hp} {s : Shared} {R : It → Hp → Prop} {E : Value → Shared → Prop} {lo hi : Int} {t u v : Tok} {tk : Nat} (I : Inv X pins σ H s) (h1 : -(2 ^ 62) ≤ lo) (h2 : lo < 2 ^ 62) (h3 : -(2 ^ 62) ≤ hi) (h4 : hi < 2 ^ 62)
    (q : R (Itr lo (hi - lo).toNat) H) : wpAny (model X.prog X.w) X.A (pyIter (.ref s.heap.objs.size)) (PIE X pins σ tg R) E { s with heap := s.heap.push { cls := .type "range", data := .fields #[.int lo t, .int hi u, .int 1 v] }, toks := tk } := by
  refine wpAny_pyIter_range (IsRange.new ..) (small_one h1 h2 h3 h4) ?_
  have I1 : Inv X pins σ H { s with heap := s.heap.push { cls := .type "range", data := .fields #[.int lo t, .int hi u, .int 1 v] }, toks := tk } := I.kept fun b o e => Heap.get?_push_of_some _ e
  refine ⟨(s.heap.push { cls := .type "range", data := .fields #[.int lo t, .int hi u, .int 1 v] }).objs.size, [(s.heap.push { cls := .type "range", data := .fields #[.int lo t, .int hi u, .int 1 v] }).objs.size], _, _, H, rfl,
    I1.kept (t' := tk) fun b o e => Heap.get?_push_of_some _ e, turn_range _ lo (hi - lo).toNat, ?_, fun b hb => ?_, q⟩
  · have e1 : lo + ((0 : Nat) : Int) * 1 = lo := by simp
    have e2 : (((hi - lo).toNat : Nat) : Int) - ((0 : Nat) : Int) = Builtin.Range.rangeSize lo hi 1 := by rw [rangeSize_one]; split <;> omega
    show IsRangeIter _ _ (lo + ((0 : Nat) : Int) * 1) ((((hi - lo).toNat : Nat) : Int) - ((0 : Nat) : Int)) 1
    rw [e1, e2]
    exact Heap.get?_push_size _ rfl
  · have e : b = (s.heap.push { cls := .type "range", data := .fields #[.int lo t, .int hi u, .int 1 v] }).objs.size := by simpa using hb
    subst e
    exact I1.fpOk (Nat.le_refl _) (I1.hok.fresh (Nat.le_refl _))
def iRng1 (ta : TA) : TI := fun σ H R => ta σ H fun vs H1 => ∃ j : Int, vs = [.int j] ∧ -(2 ^ 62) ≤ j ∧ j < 2 ^ 62 ∧ R (Itr 0 j.toNat) H1
theorem pi_range1 {a : Expr} {ta : TA} {p pos : Pos} (hg : Gl X "range") (hm : X.mg "range" = none) (ha : PA X [a] ta) (hs : starEach [a] X.env = [(false, eval a X.env)] := by rfl) : PI X tg (.Call (.Name "range" p) [a] [] pos) (iRng1 ta) := by
  intro pins s σ H R I h
  refine Call_ (ld_blt I hg hm boot_range (PyProof.Rows.callWith_type1 (thn (ha pos pins s σ H _ I h) fun us s1 ⟨vs, H1, I1, r1, q1⟩ => ?_) hs rfl))
  obtain ⟨j, e, q1, q2, q⟩ := q1
  subst e
  cases r1 with
  | cons r rr =>
    cases rr
    obtain ⟨t, rfl⟩ := r
    exact call_range_1 (range_it I1 (by omega) (by omega) q1 q2 (by simpa using q))

/-! ### for -/
/-- W: the invariant by the turn and a measure; N: what the body is to reach -/
def tFor (wi : TI) (g : TG) (tb : TS) : TS := fun D σ H => wi σ H fun J H1 => ∃ W : Nat → Nat → St → Hp → Prop, (∃ m, W 0 m σ H1) ∧ ∀ i m σ H, W i m σ H →
  (J.stop i H ∧ D.nx σ H) ∨ (J.go i H ∧ ∃ N : St → Hp → Prop, (∀ σ' H', N σ' H' → ∃ m', m' < m ∧ W (i + 1) m' σ' H') ∧ ∀ x H', J.yld i H x H' → g x σ H' fun σ2 H2 => tb { D with nx := N, ct := N, bk := D.nx } σ2 H2)
/-- the records at fp as they stand -/
def pinsAt (fp : List Addr) (h : Heap) : List (Addr × Obj) := fp.filterMap fun b => (h.get? b).map fun o => (b, o)
theorem mem_pinsAt {fp : List Addr} {h : Heap} {b : Addr} {o : Obj} (hb : b ∈ fp) (e : h.get? b = some o) : (b, o) ∈ pinsAt fp h := List.mem_filterMap.mpr ⟨b, hb, by rw [e]; rfl⟩
theorem of_pinsAt {fp : List Addr} {h : Heap} {p : Addr × Obj} (hp : p ∈ pinsAt fp h) : p.1 ∈ fp ∧ h.get? p.1 = some p.2 := by
  obtain ⟨b, hb, e⟩ := List.mem_filterMap.mp hp
  cases q : h.get? b with
  | none => rw [q] at e; cases e
  | some o =>
    rw [q] at e
    have e' : (b, o) = p := Option.some.inj e
    subst e'
    exact ⟨hb, q⟩
theorem Inv.pinned {pins : List (Addr × Obj)} {σ : St} {H : Hp} {s : Shared} {fp : List Addr} (I : Inv X pins σ H s) (hf : ∀ b ∈ fp, FpOk X pins H b) (ho : ∀ b ∈ fp, ∃ o, s.heap.get? b = some o ∧ ∀ v, o.data ≠ .cell v) : Inv X (pins ++ pinsAt fp s.heap) σ H s :=
  I.pins_of fun p hp => (List.mem_append.mp hp).elim (fun z => I.pin p (List.mem_append_right _ z)) fun z => by
    obtain ⟨hb, e⟩ := of_pinsAt z
    obtain ⟨f0, f1, f2, _⟩ := hf p.1 hb
    obtain ⟨o, e', d⟩ := ho p.1 hb
    rw [e] at e'; cases e'
    exact ⟨e, f0, f1, f2, d⟩
theorem Inv.unpinned {pins pl : List (Addr × Obj)} {σ : St} {H : Hp} {s : Shared} (I : Inv X (pins ++ pl) σ H s) : Inv X pins σ H s := I.pins_of fun p hp => I.pin p (List.mem_append_right _ (List.mem_append_left _ hp))
theorem ps_for {iter : Expr} {body : List Stmt} {wi : TI} {g : TG} {tb : TS} {pos : Pos} (hp : PassesOwn (model X.prog X.w) X.A X.env X.xe) (hc : X.calm = true) (hi : PI X tg iter wi) (hg : PG X tg g) (hb : PSs X body tb)
    (hs : ∀ x, foldedSetIterable iter X.env x = pure x := by intro _; rfl) : PS X (.For tg iter body [] pos) (tFor wi g tb) := by
  intro pins s σ H D I h
  refine wpAny_For (thn (hi pins s σ H _ I h) fun v s1 h1 => thn h1 fun itv s2 h2 => ?_) hs
  obtain ⟨it, fp, tn, J, H2, e, I2, T, st2, f2, W, ⟨m0, w0⟩, turn⟩ := h2
  subst e
  -- what stays true of the iterator's objects through the loop
  have stat : ∀ {H' : Hp}, (∀ b ∈ fp, H' b = none) → ∀ b ∈ fp, FpOk X pins H' b := fun hn b hb => ⟨hn b hb, (f2 b hb).2⟩
  refine codeAny_forLoop_any (fun n s' => ∃ i σ' H', Inv X pins σ' H' s' ∧ tn i s'.heap ∧ (∀ b ∈ fp, H' b = none) ∧ W i n σ' H') ?_ m0 ⟨0, σ, H2, I2, st2, fun b hb => (f2 b hb).1, w0⟩
  rintro n s3 ⟨i, σ3, H3, I3, st3, fr3, w3⟩
  rcases turn i n σ3 H3 w3 with ⟨stop, qn⟩ | ⟨go, N, hN, step⟩
  · refine wpAny_passesOwn hp (thn (T.done X rfl rfl rfl hc i pins s3 σ3 H3 X.xe I3 (stat fr3) st3 stop) fun r s4 ⟨hr, I4⟩ => ?_)
    subst hr
    exact wpAny_execs_nil ⟨σ3, H3, I4, qn⟩
  · refine wpAny_passesOwn hp (thn (T.item X rfl rfl rfl hc i pins s3 σ3 H3 X.xe I3 (stat fr3) st3 go) fun r s4 ⟨u, hr, h4⟩ => ?_)
    subst hr
    refine wpAny_passesOwn hp (thn h4 fun _ s5 ⟨x, H5, I5, r5, y5, st5, fr5⟩ => ?_)
    have I5' := I5.pinned (stat fr5) (T.obj _ _ st5)
    refine wpAny_passesOwn hp (thn (hg _ s5 σ3 H5 x u _ I5' r5 (step x H5 y5)) fun _ s6 ⟨σ6, H6, I6, q6⟩ => ?_)
    refine wpAny_passesOwn hp (thn (hb _ s6 σ6 H6 _ I6 q6) fun f s7 q7 => ?_)
    have again : ∀ {σ7 : St} {H7 : Hp}, Inv X (pins ++ pinsAt fp s5.heap) σ7 H7 s7 → N σ7 H7 → ∃ m, m < n ∧ ∃ i σ' H', Inv X pins σ' H' s7 ∧ tn i s7.heap ∧ (∀ b ∈ fp, H' b = none) ∧ W i m σ' H' := fun {σ7 H7} I7 n7 => by
      obtain ⟨m', hm, w7⟩ := hN σ7 H7 n7
      refine ⟨m', hm, i + 1, σ7, H7, I7.unpinned, T.keep _ _ _ st5 fun b hb o e => (I7.pin (b, o) (List.mem_append_right _ (List.mem_append_right _ (mem_pinsAt hb e)))).1, fun b hb => ?_, w7⟩
      obtain ⟨o, e, d⟩ := T.obj _ _ st5 b hb
      exact (I7.pin (b, o) (List.mem_append_right _ (List.mem_append_right _ (mem_pinsAt hb e)))).2.1
    cases f with
    | next => obtain ⟨σ7, H7, I7, n7⟩ := q7; exact again I7 n7
    | cont => obtain ⟨σ7, H7, I7, n7⟩ := q7; exact again I7 n7
    | brk => obtain ⟨σ7, H7, I7, q7⟩ := q7; exact ⟨σ7, H7, I7.unpinned, q7⟩
    | ret v => obtain ⟨x7, σ7, H7, I7, r7, q7⟩ := q7; exact ⟨x7, σ7, H7, I7.unpinned, r7, q7⟩
end

/-! ### the forms one uses -/
/-- over a list that the body leaves as it is -/
theorem for_list {K : PySem.W.Frag} {a : Addr} {xs : List V} {g : TG} {tb : TS} {D : Ends} {σ : St} {H : Hp} (Pv : Nat → St → Hp → Prop) (h0 : Pv 0 σ H) (hl : ∀ i σ H, i ≤ xs.length → Pv i σ H → SqL K H a xs)
    (hs : ∀ i x σ H, xs[i]? = some x → Pv i σ H → g x σ H fun σ2 H2 => tb { D with nx := Pv (i + 1), ct := Pv (i + 1), bk := D.nx } σ2 H2) (hd : ∀ σ H, Pv xs.length σ H → D.nx σ H) :
    ∃ W : Nat → Nat → St → Hp → Prop, (∃ m, W 0 m σ H) ∧ ∀ i m σ H, W i m σ H →
      ((Itl K a).stop i H ∧ D.nx σ H) ∨ ((Itl K a).go i H ∧ ∃ N : St → Hp → Prop, (∀ σ' H', N σ' H' → ∃ m', m' < m ∧ W (i + 1) m' σ' H') ∧ ∀ x H', (Itl K a).yld i H x H' → g x σ H' fun σ2 H2 => tb { D with nx := N, ct := N, bk := D.nx } σ2 H2) := by
  refine ⟨fun i m σ H => m = xs.length - i ∧ i ≤ xs.length ∧ Pv i σ H, ⟨xs.length, by simp, Nat.zero_le _, h0⟩, ?_⟩
  rintro i m σ H ⟨rfl, hi, p⟩
  have q := hl i σ H hi p
  by_cases hlt : i < xs.length
  · refine .inr ⟨⟨xs, xs[i], q, by simp [hlt]⟩, Pv (i + 1), fun σ' H' p' => ⟨xs.length - (i + 1), by omega, rfl, hlt, p'⟩, fun x H' y => ?_⟩
    obtain ⟨e, y⟩ := y
    subst e
    exact hs i x σ _ (y xs q) p
  · have e : i = xs.length := by omega
    subst e
    exact .inl ⟨⟨xs, q, Nat.le_refl _⟩, hd σ H p⟩
theorem for_range {lo : Int} {n : Nat} {g : TG} {tb : TS} {D : Ends} {σ : St} {H : Hp} (Pv : Nat → St → Hp → Prop) (h0 : Pv 0 σ H)
    (hs : ∀ i σ H, i < n → Pv i σ H → g (.int (lo + i)) σ H fun σ2 H2 => tb { D with nx := Pv (i + 1), ct := Pv (i + 1), bk := D.nx } σ2 H2) (hd : ∀ σ H, Pv n σ H → D.nx σ H) :
    ∃ W : Nat → Nat → St → Hp → Prop, (∃ m, W 0 m σ H) ∧ ∀ i m σ H, W i m σ H →
      ((Itr lo n).stop i H ∧ D.nx σ H) ∨ ((Itr lo n).go i H ∧ ∃ N : St → Hp → Prop, (∀ σ' H', N σ' H' → ∃ m', m' < m ∧ W (i + 1) m' σ' H') ∧ ∀ x H', (Itr lo n).yld i H x H' → g x σ H' fun σ2 H2 => tb { D with nx := N, ct := N, bk := D.nx } σ2 H2) := by
  refine ⟨fun i m σ H => m = n - i ∧ i ≤ n ∧ Pv i σ H, ⟨n, by simp, Nat.zero_le _, h0⟩, ?_⟩
  rintro i m σ H ⟨rfl, hi, p⟩
  by_cases hlt : i < n
  · refine .inr ⟨hlt, Pv (i + 1), fun σ' H' p' => ⟨n - (i + 1), by omega, rfl, hlt, p'⟩, fun x H' y => ?_⟩
    obtain ⟨e, y⟩ := y
    subst e y
    exact hs i σ _ hlt p
  · have e : i = n := by omega
    subst e
    exact .inl ⟨Nat.le_refl _, hd σ H p⟩
end L2

namespace L2
open PySem PySem.Spec PyProof.Rows

abbrev R2 := V → V → Hp → VK → Prop
/-- a two-place operation on values: f is binaryOp op, inplaceOp op or compareOp op -/
def OpR (X : Cx) (f : Value → Value → Sem Value) (r : R2) : Prop :=
  ∀ (pins : List (Addr × Obj)) (s : Shared) (σ : St) (H : Hp) (x y : V) (v u : Value) (Q : VK), Inv X pins σ H s → RelV x v → RelV y u → r x y H Q →
    wpAny (model X.prog X.w) X.A (f v u) (EP X pins σ Q) X.xe s
/-- a one-place operation -/
def UnR (X : Cx) (f : Value → Sem Value) (r : V → Hp → VK → Prop) : Prop :=
  ∀ (pins : List (Addr × Obj)) (s : Shared) (σ : St) (H : Hp) (x : V) (v : Value) (Q : VK), Inv X pins σ H s → RelV x v → r x H Q →
    wpAny (model X.prog X.w) X.A (f v) (EP X pins σ Q) X.xe s
/-- a call of a value that is known (a builtin, a type) with values -/
def CallR (X : Cx) (f : Value) (r : List V → Hp → VK → Prop) : Prop :=
  ∀ (pins : List (Addr × Obj)) (s : Shared) (σ : St) (H : Hp) (xs : List V) (us : List Value) (Q : VK), Inv X pins σ H s → Vals xs us → r xs H Q →
    wpAny (model X.prog X.w) X.A (call f us) (EP X pins σ Q) X.xe s
/-- a value's truth -/
def TruR (X : Cx) (r : V → Hp → (Bool → Hp → Prop) → Prop) : Prop :=
  ∀ (pins : List (Addr × Obj)) (s : Shared) (σ : St) (H : Hp) (x : V) (v : Value) (Q : Bool → Hp → Prop), Inv X pins σ H s → RelV x v → r x H Q →
    wpAny (model X.prog X.w) X.A (truthy v) (TP X pins σ Q) X.xe s

def tOp (r : R2) (ta tb : TE) : TE := fun σ H Q => ta σ H fun x H1 => tb σ H1 fun y H2 => r x y H2 Q
def tUn (r : V → Hp → VK → Prop) (ta : TE) : TE := fun σ H Q => ta σ H fun x H1 => r x H1 Q
/-- ints in, under C, and a value out -/
def rI (C : Int → Int → Prop) (g : Int → Int → V) : R2 := fun x y H Q => ∃ i j, x = .int i ∧ y = .int j ∧ C i j ∧ Q (g i j) H
def rI0 (g : Int → Int → V) : R2 := fun x y H Q => ∃ i j, x = .int i ∧ y = .int j ∧ Q (g i j) H
def rU (g : Int → V) : V → Hp → VK → Prop := fun x H Q => ∃ i, x = .int i ∧ Q (g i) H

section
variable {X : Cx} {a b c : Expr} {ta tb tc : TE} {pos : Pos}

theorem binT (ha : PE X a ta) (hb : PE X b tb) {pins : List (Addr × Obj)} {s : Shared} {σ : St} {H : Hp} {R : V → V → Hp → Prop} (I : Inv X pins σ H s)
    (h : ta σ H fun x H1 => tb σ H1 fun y H2 => R x y H2) {Q : Value → Shared → Prop} {f : Value → Value → Sem Value}
    (hf : ∀ v u s2 x y H2, Inv X pins σ H2 s2 → RelV x v → RelV y u → R x y H2 → wpAny (model X.prog X.w) X.A (f v u) Q X.xe s2) :
    wpAny (model X.prog X.w) X.A (eval a X.env) (fun v s₁ => wpAny (model X.prog X.w) X.A (eval b X.env) (fun u s₂ => wpAny (model X.prog X.w) X.A (f v u) Q X.xe s₂) X.xe s₁) X.xe s := by
  refine thn (ha pins s σ H _ I h) fun v s1 ⟨x, H1, I1, r1, q1⟩ => ?_
  refine thn (hb pins s1 σ H1 _ I1 q1) fun u s2 ⟨y, H2, I2, r2, q2⟩ => ?_
  exact hf v u s2 x y H2 I2 r1 r2 q2

theorem pe_op {op : Operator} {r : R2} (ho : OpR X (binaryOp op) r) (ha : PE X a ta) (hb : PE X b tb) : PE X (.BinOp a op b pos) (tOp r ta tb) := by
  intro pins s σ H Q I h
  exact wpAny_BinOp (binT ha hb I h fun v u s2 x y H2 I2 rx ry q => ho pins s2 σ H2 x y v u Q I2 rx ry q)
theorem pe_un {op : UnaryOp} {r : V → Hp → VK → Prop} (ho : UnR X (unaryOp op) r) (ha : PE X a ta) : PE X (.UnaryOp op a pos) (tUn r ta) := by
  intro pins s σ H Q I h
  exact UnaryOp_ (thn (ha pins s σ H _ I h) fun v s1 ⟨x, H1, I1, r1, q1⟩ => ho pins s1 σ H1 x v Q I1 r1 q1)

/-! ### ints -/
theorem opI {f : Value → Value → Sem Value} {C : Int → Int → Prop} {g : Int → Int → Int}
    (rule : ∀ (i j : Int) (t u : Tok) (s : Shared) (Q : Value → Shared → Prop) (E : Value → Shared → Prop), C i j → Q (.int (g i j) s.toks) { s with toks := s.toks + 1 } → wpAny (model X.prog X.w) X.A (f (.int i t) (.int j u)) Q E s) :
    OpR X f (rI C fun i j => .int (g i j)) := by
  intro pins s σ H x y v u Q I rx ry h
  obtain ⟨i, j, rfl, rfl, hc, q⟩ := h
  obtain ⟨t, rfl⟩ := rx
  obtain ⟨t', rfl⟩ := ry
  exact rule i j t t' s _ _ hc ⟨.int (g i j), H, I.tok _, ⟨_, rfl⟩, q⟩
theorem opI0 {f : Value → Value → Sem Value} {g : Int → Int → Int}
    (rule : ∀ (i j : Int) (t u : Tok) (s : Shared) (Q : Value → Shared → Prop) (E : Value → Shared → Prop), Q (.int (g i j) s.toks) { s with toks := s.toks + 1 } → wpAny (model X.prog X.w) X.A (f (.int i t) (.int j u)) Q E s) :
    OpR X f (rI0 fun i j => .int (g i j)) := by
  intro pins s σ H x y v u Q I rx ry h
  obtain ⟨i, j, rfl, rfl, q⟩ := h
  obtain ⟨t, rfl⟩ := rx
  obtain ⟨t', rfl⟩ := ry
  exact rule i j t t' s _ _ ⟨.int (g i j), H, I.tok _, ⟨_, rfl⟩, q⟩
theorem opB0 {f : Value → Value → Sem Value} {g : Int → Int → Bool}
    (rule : ∀ (i j : Int) (t u : Tok) (s : Shared) (Q : Value → Shared → Prop) (E : Value → Shared → Prop), Q (.bool (g i j)) s → wpAny (model X.prog X.w) X.A (f (.int i t) (.int j u)) Q E s) :
    OpR X f (rI0 fun i j => .bl (g i j)) := by
  intro pins s σ H x y v u Q I rx ry h
  obtain ⟨i, j, rfl, rfl, q⟩ := h
  obtain ⟨t, rfl⟩ := rx
  obtain ⟨t', rfl⟩ := ry
  exact rule i j t t' s _ _ ⟨.bl (g i j), H, I, rfl, q⟩

def CPow (i j : Int) : Prop := 0 ≤ j ∧ j ≤ 1000000 ∧ i.natAbs < 2 ^ 64
def CMul (i j : Int) : Prop := (-(2 ^ 64) < i ∧ i < 2 ^ 64) ∨ (-(2 ^ 64) < j ∧ j < 2 ^ 64)
theorem CMul.ok {i j : Int} (h : CMul i j) : IntMulOk i j := by
  rcases h with ⟨h1, h2⟩ | ⟨h1, h2⟩
  · exact .of_left (intBits_le_64 h1 h2)
  · exact .of_right (intBits_le_64 h1 h2)

theorem op_add : OpR X (binaryOp .Add) (rI0 fun i j => .int (i + j)) := opI0 fun _ _ _ _ _ _ _ q => add_int q
theorem op_sub : OpR X (binaryOp .Sub) (rI0 fun i j => .int (i - j)) := opI0 fun _ _ _ _ _ _ _ q => sub_int q
theorem op_mul : OpR X (binaryOp .Mult) (rI CMul fun i j => .int (i * j)) := opI fun _ _ _ _ _ _ _ hc q => mul_int q hc.ok
/-- % by a positive divisor of any size -/
theorem op_mod : OpR X (binaryOp .Mod) (rI (fun _ j => 0 < j) fun i j => .int (i % j)) := opI fun i j _ _ _ _ _ hc q => by
  have h1 : (0 : Int) < j := hc
  exact mod_int' (by omega) (by rw [Int.fmod_eq_emod_of_nonneg i (by omega)]; exact q)
theorem op_pow : OpR X (binaryOp .Pow) (rI CPow fun i j => .int (i ^ j.toNat)) := opI fun _ _ _ _ _ _ _ hc q => pow_int_small hc.1 hc.2.1 hc.2.2 q


theorem unI {f : Value → Sem Value} {g : Int → Int}
    (rule : ∀ (i : Int) (t : Tok) (s : Shared) (Q : Value → Shared → Prop) (E : Value → Shared → Prop), Q (.int (g i) s.toks) { s with toks := s.toks + 1 } → wpAny (model X.prog X.w) X.A (f (.int i t)) Q E s) :
    UnR X f (rU fun i => .int (g i)) := by
  intro pins s σ H x v Q I rx h
  obtain ⟨i, rfl, q⟩ := h
  obtain ⟨t, rfl⟩ := rx
  exact rule i t s _ _ ⟨.int (g i), H, I.tok _, ⟨_, rfl⟩, q⟩
theorem un_neg : UnR X (unaryOp .USub) (rU fun i => .int (-i)) := unI fun _ _ _ _ _ q => neg_int q

/-! ### bools among ints: n += (a < b) -/
end

/-! ### comparisons -/
/-- the scalars that == tells apart as data does -/
def scal : V → V → Bool
  | .non, .non => true | .non, .int _ => true | .int _, .non => true | .non, .bl _ => true | .bl _, .non => true | .non, .str _ => true | .str _, .non => true
  | .int _, .int _ => true | .bl _, .bl _ => true | .str _, .str _ => true | .byt _, .byt _ => true
  | .int _, .str _ => true | .str _, .int _ => true | .bl _, .str _ => true | .str _, .bl _ => true
  | _, _ => false
def rEq : R2 := fun x y H Q => scal x y = true ∧ Q (.bl (decide (x = y))) H
def rNe : R2 := fun x y H Q => scal x y = true ∧ Q (.bl (!decide (x = y))) H

theorem dec_int {i j : Int} : decide (V.int i = V.int j) = (i == j) := by
  rw [Bool.eq_iff_iff]
  simp
theorem dec_bl {i j : Bool} : decide (V.bl i = V.bl j) = (i == j) := by
  rw [Bool.eq_iff_iff]
  simp
theorem dec_str {i j : Str} : decide (V.str i = V.str j) = (i == j) := by
  rw [Bool.eq_iff_iff]
  simp
theorem dec_byt {i j : Array UInt8} : decide (V.byt i = V.byt j) = (i.toList == j.toList) := by
  rw [Bool.eq_iff_iff]
  cases i
  cases j
  simp

section
variable {X : Cx} {a b c : Expr} {ta tb tc : TE} {pos : Pos}
theorem fin_bl {pins : List (Addr × Obj)} {σ : St} {H : Hp} {s : Shared} {Q : VK} {k k' : Bool} (I : Inv X pins σ H s) (q : Q (.bl k) H) (e : k = k') : EP X pins σ Q (.bool k') s := by
  subst e
  exact ⟨.bl k, H, I, rfl, q⟩
theorem op_eq : OpR X (compareOp .Eq) rEq := by
  intro pins s σ H x y v u Q I rx ry h
  obtain ⟨hs, q⟩ := h
  cases x with
  | non =>
    cases rx
    cases y with
    | non => cases ry; exact PySem.EqNone.eq_none_none (fin_bl I q (by simp))
    | bl j => cases ry; exact PySem.EqNone.eq_none_bool (fin_bl I q (by simp))
    | int j => obtain ⟨t', rfl⟩ := ry; exact PySem.EqNone.eq_none_int (fin_bl I q (by simp))
    | str j => obtain ⟨t', rfl⟩ := ry; exact PySem.EqNone.eq_none_str (fin_bl I q (by simp))
    | _ => exact absurd (show false = true from hs) Bool.false_ne_true
  | bl i =>
    cases rx
    cases y with
    | non => cases ry; exact PySem.EqNone.eq_bool_none (fin_bl I q (by simp))
    | bl j => cases ry; exact eq_bool (fin_bl I q dec_bl)
    | str j => obtain ⟨t', rfl⟩ := ry; exact PySem.EqMixed.eq_bool_str (fin_bl I q (by simp))
    | _ => exact absurd (show false = true from hs) Bool.false_ne_true
  | int i =>
    obtain ⟨t, rfl⟩ := rx
    cases y with
    | non => cases ry; exact PySem.EqNone.eq_int_none (fin_bl I q (by simp))
    | int j => obtain ⟨t', rfl⟩ := ry; exact eq_int (fin_bl I q dec_int)
    | str j => obtain ⟨t', rfl⟩ := ry; exact PySem.EqMixed.eq_int_str (fin_bl I q (by simp))
    | _ => exact absurd (show false = true from hs) Bool.false_ne_true
  | str i =>
    obtain ⟨t, rfl⟩ := rx
    cases y with
    | non => cases ry; exact PySem.EqNone.eq_str_none (fin_bl I q (by simp))
    | bl j => cases ry; exact PySem.EqMixed.eq_str_bool (fin_bl I q (by simp))
    | int j => obtain ⟨t', rfl⟩ := ry; exact PySem.EqMixed.eq_str_int (fin_bl I q (by simp))
    | str j => obtain ⟨t', rfl⟩ := ry; exact eq_str (fin_bl I q dec_str)
    | _ => exact absurd (show false = true from hs) Bool.false_ne_true
  | byt i =>
    obtain ⟨t, rfl⟩ := rx
    cases y with
    | byt j => obtain ⟨t', rfl⟩ := ry; exact PySem.W.eq_bytes (fin_bl I q dec_byt)
    | _ => exact absurd (show false = true from hs) Bool.false_ne_true
  | _ => cases y <;> exact absurd (show false = true from hs) Bool.false_ne_true
theorem op_ne : OpR X (compareOp .NotEq) rNe := by
  intro pins s σ H x y v u Q I rx ry h
  obtain ⟨hs, q⟩ := h
  cases x with
  | non =>
    cases rx
    cases y with
    | non => cases ry; exact PySem.EqNone.ne_none_none (fin_bl I q (by simp))
    | bl j => cases ry; exact PySem.EqNone.ne_none_bool (fin_bl I q (by simp))
    | int j => obtain ⟨t', rfl⟩ := ry; exact PySem.EqNone.ne_none_int (fin_bl I q (by simp))
    | str j => obtain ⟨t', rfl⟩ := ry; exact PySem.EqNone.ne_none_str (fin_bl I q (by simp))
    | _ => exact absurd (show false = true from hs) Bool.false_ne_true
  | bl i =>
    cases rx
    cases y with
    | non => cases ry; exact PySem.EqNone.ne_bool_none (fin_bl I q (by simp))
    | bl j => cases ry; exact ne_bool (fin_bl I q (congrArg not dec_bl))
    | str j => obtain ⟨t', rfl⟩ := ry; exact PySem.EqMixed.ne_bool_str (fin_bl I q (by simp))
    | _ => exact absurd (show false = true from hs) Bool.false_ne_true
  | int i =>
    obtain ⟨t, rfl⟩ := rx
    cases y with
    | non => cases ry; exact PySem.EqNone.ne_int_none (fin_bl I q (by simp))
    | int j => obtain ⟨t', rfl⟩ := ry; exact ne_int (fin_bl I q (congrArg not dec_int))
    | str j => obtain ⟨t', rfl⟩ := ry; exact PySem.EqMixed.ne_int_str (fin_bl I q (by simp))
    | _ => exact absurd (show false = true from hs) Bool.false_ne_true
  | str i =>
    obtain ⟨t, rfl⟩ := rx
    cases y with
    | non => cases ry; exact PySem.EqNone.ne_str_none (fin_bl I q (by simp))
    | bl j => cases ry; exact PySem.EqMixed.ne_str_bool (fin_bl I q (by simp))
    | int j => obtain ⟨t', rfl⟩ := ry; exact PySem.EqMixed.ne_str_int (fin_bl I q (by simp))
    | str j => obtain ⟨t', rfl⟩ := ry; exact ne_str (fin_bl I q (congrArg not dec_str))
    | _ => exact absurd (show false = true from hs) Bool.false_ne_true
  | byt i =>
    obtain ⟨t, rfl⟩ := rx
    cases y with
    | byt j => obtain ⟨t', rfl⟩ := ry; exact PySem.W.ne_bytes (fin_bl I q (congrArg not dec_byt))
    | _ => exact absurd (show false = true from hs) Bool.false_ne_true
  | _ => cases y <;> exact absurd (show false = true from hs) Bool.false_ne_true

theorem op_lt : OpR X (compareOp .Lt) (rI0 fun i j => .bl (decide (i < j))) := opB0 fun _ _ _ _ _ _ _ q => lt_int q
theorem op_gt : OpR X (compareOp .Gt) (rI0 fun i j => .bl (decide (j < i))) := opB0 fun _ _ _ _ _ _ _ q => gt_int q
theorem op_ge : OpR X (compareOp .GtE) (rI0 fun i j => .bl (decide (j ≤ i))) := opB0 fun _ _ _ _ _ _ _ q => ge_int q




theorem nomark (b : Expr) {op : CmpOp} (h : op ≠ .In := by decide) (h2 : op ≠ .NotIn := by decide) : behindInMarks op b = false := by
  have e1 : (op == CmpOp.In) = false := by cases op <;> first | rfl | exact absurd rfl h
  have e2 : (op == CmpOp.NotIn) = false := by cases op <;> first | rfl | exact absurd rfl h2
  cases b <;> simp [behindInMarks, e1, e2]
/-- a reading of a value as a test -/
def tTest (t : TE) : TT := fun σ H Q => t σ H fun x H' => ∃ k, x = .bl k ∧ Q k H'
theorem pt_cmpR {op : CmpOp} {r : R2} (ho : OpR X (compareOp op) r) (ha : PE X a ta) (hb : PE X b tb) (hm : behindInMarks op b = false) : PT X (.Compare a [op] [b] pos) (tTest (tOp r ta tb)) := by
  intro pins s σ H Q I h
  refine wpAny_isTrue_Compare1 (thn (ha pins s σ H _ I h) fun v s1 ⟨x, H1, I1, r1, q1⟩ => thn (hb pins s1 σ H1 _ I1 q1) fun u s2 ⟨y, H2, I2, r2, q2⟩ =>
    thn (ho pins s2 σ H2 x y v u _ I2 r1 r2 q2) fun c s3 ⟨z, H3, I3, r3, k, e, q3⟩ => ?_) hm
  subst e
  cases r3
  exact wpAny_truthy_bool ⟨H3, I3, q3⟩

/-! ### truth -/
/-- a value's truth by the abstract heap -/
def TruV (K : PySem.W.Frag) (x : V) (H : Hp) (k : Bool) : Prop :=
  match x with
  | .non => k = false
  | .bl b => k = b
  | .int i => k = (i != 0)
  | .str y => y.length ≤ sizeLine ∧ k = ((y.length : Int) != 0)
  | .byt y => y.size ≤ sizeLine ∧ k = ((y.size : Int) != 0)
  | .ref p => (∃ xs, SqL K H p xs ∧ k = !xs.isEmpty) ∨ (∃ xs, SqT K H p xs ∧ k = !xs.isEmpty) ∨ ∃ kvs, H p = some (.dK kvs) ∧ k = !kvs.isEmpty
  | _ => False
theorem isEmpty_kv {κ : Type} {kvs : List (κ × V)} {vs : List (κ × Value)} (r : KV kvs vs) : (!vs.isEmpty) = !kvs.isEmpty := by
  cases r <;> rfl
theorem isEmpty_of {xs : List V} {its : List Value} (r : Vals xs its) : (!its.toArray.isEmpty) = !xs.isEmpty := by
  cases r <;> simp
theorem line63 : (sizeLine : Nat) < 2 ^ 63 := by rw [sizeLine_eq]; decide
theorem tru_ok : TruR X (fun x H Q => ∃ k, TruV X.K x H k ∧ Q k H) := by
  intro pins s σ H x v Q I rx h
  obtain ⟨k, e, q⟩ := h
  have hl := line63
  have hs : sizeLine = 16777216 := sizeLine_eq
  cases x with
  | non =>
    cases rx
    have e' : k = false := e
    subst e'
    exact truthy_none ⟨H, I, q⟩
  | bl b =>
    cases rx
    have e' : k = b := e
    subst e'
    exact wpAny_truthy_bool ⟨H, I, q⟩
  | int i =>
    obtain ⟨t, rfl⟩ := rx
    have e' : k = (i != 0) := e
    subst e'
    exact PySem.P.truthy_int ⟨H, I, q⟩
  | str y =>
    obtain ⟨t, rfl⟩ := rx
    obtain ⟨hy, e'⟩ : y.length ≤ sizeLine ∧ k = ((y.length : Int) != 0) := e
    subst e'
    exact PySem.P.truthy_str (by omega) ⟨H, I.tok _, q⟩
  | byt y =>
    obtain ⟨t, rfl⟩ := rx
    obtain ⟨hy, e'⟩ : y.size ≤ sizeLine ∧ k = ((y.size : Int) != 0) := e
    subst e'
    exact PySem.W.truthy_bytes (by omega) ⟨H, I.tok _, q⟩
  | ref p =>
    cases rx
    have e' : (∃ xs, SqL X.K H p xs ∧ k = !xs.isEmpty) ∨ (∃ xs, SqT X.K H p xs ∧ k = !xs.isEmpty) ∨ ∃ kvs, H p = some (.dK kvs) ∧ k = !kvs.isEmpty := e
    rcases e' with ⟨xs, hx, e'⟩ | ⟨xs, hx, e'⟩ | ⟨kvs, hx, e'⟩
    · subst e'
      obtain ⟨its, r, pl, hz⟩ := I.list hx
      have hlen := r.length
      exact wpAny_truthy_list pl.isList (by simp only [List.size_toArray]; omega) ⟨H, I.tok _, by rw [isEmpty_of r]; exact q⟩
    · subst e'
      obtain ⟨its, r, pl, hz⟩ := I.tuple hx
      have hlen := r.length
      exact truthy_tuple pl (by simp only [List.size_toArray]; omega) ⟨H, I.tok _, by rw [isEmpty_of r]; exact q⟩
    · subst e'
      obtain ⟨hz, hS, vs, r, m⟩ : kvs.length ≤ sizeLine ∧ (p == sysModules) = false ∧ ∃ vs, KV kvs vs ∧ s.heap.DictOf (mixKind X.prog X.w) p vs := I.hok p _ hx
      have hlen : kvs.length = vs.length := Paired.length r
      exact wpAny_truthy_dict hS m (by omega) ⟨H, I.tok _, by rw [isEmpty_kv r]; exact q⟩
  | _ => exact (show False from e).elim
/-- any expression whose test is its value's truth (a name, a call, a subscript, a field ..: he by fun _ => rfl) -/
theorem pt_truth (ha : PE X a ta) (he : ∀ whole, isTrue a X.env whole = (do let v ← whole; standAt a.pos; holding [v] (truthy v))) :
    PT X a (fun σ H Q => ta σ H fun x H' => ∃ k, TruV X.K x H' k ∧ Q k H') := by
  intro pins s σ H Q I h
  exact isTrue_plain (thn (ha pins s σ H _ I h) fun v s1 ⟨x, H1, I1, r1, q1⟩ => tru_ok pins s1 σ H1 x v Q I1 r1 q1) (he _)

/-! ### strs and bytes -/


/-! ### scalar builtins, by CallR -/
theorem vals1 {x : V} {us : List Value} (r : Vals [x] us) : ∃ u, us = [u] ∧ RelV x u := by
  cases r with
  | cons r1 r2 => cases r2; exact ⟨_, rfl, r1⟩
theorem vals2 {x y : V} {us : List Value} (r : Vals [x, y] us) : ∃ u w', us = [u, w'] ∧ RelV x u ∧ RelV y w' := by
  cases r with
  | cons r1 r2 =>
    cases r2 with
    | cons r3 r4 => cases r4; exact ⟨_, _, rfl, r1, r3⟩
theorem call_max2 (hc : X.calm = true) : CallR X (.builtin "max") (fun xs H Q => ∃ i j, xs = [.int i, .int j] ∧ Q (.int (if j > i then j else i)) H) := by
  intro pins s σ H xs us Q I r h
  obtain ⟨i, j, rfl, q⟩ := h
  obtain ⟨u, w', rfl, ⟨t, rfl⟩, ⟨t', rfl⟩⟩ := vals2 r
  refine max_two_ints (I.ok.hd hc) fun h' tk k => ⟨_, H, I.kept k, ?_, q⟩
  by_cases hj : j > i
  · rw [if_pos hj, if_pos hj]; exact ⟨_, rfl⟩
  · rw [if_neg hj, if_neg hj]; exact ⟨_, rfl⟩
end
end L2

namespace L2
open PySem PySem.Spec PyProof.Rows

/-! ### an instance, its attributes a map -/
structure ObjM (h : Heap) (x dx C : Addr) (mA : Str → Option Value) : Prop where
  obj : h.get? x = some (PySem.W.instObj C dx)
  ns : h.Ns1 dx mA
  ne : dx ≠ x

theorem lookIn_ns {h : Heap} {dx : Addr} {mA : Str → Option Value} (n : h.Ns1 dx mA) : ∃ od, h.get? dx = some od ∧ ∀ name, PySem.W.lookIn name od = some (mA name) := by
  obtain ⟨o, es, ep, ho, hd, hk, _, hm⟩ := n
  refine ⟨o, ho, fun name => ?_⟩
  have e := hm name
  unfold nsFind findBy at e
  rw [← Array.find?_toList] at e
  unfold PySem.W.lookIn
  rw [hd]
  dsimp only
  split
  · rename_i y q
    rw [q] at e
    exact congrArg some e
  · rename_i q
    rw [q] at e
    have a : es.toList.any (·.refKey) = false := by
      rw [List.any_eq_false]
      intro y hy
      obtain ⟨z, t, hkey⟩ := hk y (Array.mem_toList_iff.mp hy)
      simp [DictEntry.refKey, hkey]
    have a' : ¬ es.toList.any (·.refKey) = true := by rw [a]; exact Bool.false_ne_true
    rw [if_neg a']
    exact congrArg some e

theorem ObjM.look {h : Heap} {x dx C : Addr} {mA : Str → Option Value} (I : ObjM h x dx C mA) : ∃ od, PySem.W.InstAt h x (PySem.W.instObj C dx) C (some od) ∧ ∀ name, PySem.W.lookIn name od = some (mA name) :=
  let ⟨od, ho, hl⟩ := lookIn_ns I.ns
  ⟨od, ⟨I.obj, rfl, rfl, ho⟩, hl⟩

section
variable {prog : Program} {w : World} {A : Around} {E : Value → Shared → Prop} {s : Shared} {K : PySem.W.Frag} {x dx C f : Addr} {mA : Str → Option Value} {name : Str} {v : Value}





end

/-! ### the attributes as a list of pairs -/

theorem RelO.some_of {v : V} {o : Option Value} (r : RelO (some v) o) : ∃ u, o = some u ∧ RelV v u := by
  cases o with
  | none => exact (show False from r).elim
  | some u => exact ⟨u, rfl, r⟩

section
variable {P : Program} {w : World} {H H' : Hp} {h h' : Heap} {a C dx : Addr} {fs fs' : List (Str × V)}
theorem ins_get (hok : HOk P w H h) (e : H a = some (.ins C dx fs)) : ∃ mA, ObjM h a dx C mA ∧ (∀ f, RelO (fs.lookup f) (mA f)) ∧ PySem.Within mA (fs.map (·.1)) ∧ fs.length ≤ 1000 ∧ H dx = some (.own a) := by
  obtain ⟨d, z, ne, ob, mA, n, r, q⟩ := (show ObjOk P w H h a (.ins C dx fs) from hok a _ e)
  exact ⟨mA, ⟨ob, n, ne⟩, r, q, z, d⟩
end

/-! ### what of the text a class must have -/
structure Cls (K : PySem.W.Frag) (C : Addr) : Prop where
  pg : PySem.W.plainGet K C Str.empty = true
  hd : PySem.W.hasDictIn K C = true
  po : PySem.W.plainOver K C = true
  sa : PySem.W.findIn K (.ref C) "__setattr__" = some (some (.builtin "object.__setattr__"))
theorem Cls.get {K : PySem.W.Frag} {C : Addr} (c : Cls K C) (f : Str) : PySem.W.plainGet K C f = true := c.pg

section
variable {X : Cx} {pins : List (Addr × Obj)} {σ : St} {H : Hp} {s : Shared} {a C dx : Addr} {fs : List (Str × V)} {f : Str} {v : V} {A : Around} {E : Value → Shared → Prop}






end

/-! ### readings and rules -/

section
variable {X : Cx} {o e value : Expr} {f : Str} {pos pos' tpos : Pos} {ta tv : TE}

end

/-! ### isinstance -/
section
variable {X : Cx} {pins : List (Addr × Obj)} {σ : St} {H : Hp} {s : Shared} {A : Around} {E : Value → Shared → Prop} {Q : Value → Shared → Prop} {c : Value} {b : Bool}
/-- the type of a value, as the fragment's deciders take it; for an instance its class -/
inductive TyOf (K : PySem.W.Frag) (H : Hp) : V → Value → Prop where
  | non : TyOf K H .non (.type "NoneType")
  | bl (x : Bool) : TyOf K H (.bl x) (.type "bool")
  | int (i : Int) : TyOf K H (.int i) (.type "int")
  | str (x : Str) : TyOf K H (.str x) (.type "str")
  | flt (x : UInt64) : TyOf K H (.flt x) (.type "float")
  | lst {a : Addr} {xs : List V} (e : H a = some (.lst xs)) : TyOf K H (.ref a) (.type "list")
  | frz {a : Addr} {o : Obj} {xs : List V} (e : H a = some (.frz o (.lst xs))) : TyOf K H (.ref a) (.type "list")
  | tup {a : Addr} {xs : List V} (e : H a = some (.tup xs)) : TyOf K H (.ref a) (.type "tuple")
  | dK {a : Addr} {kvs : List (Key × V)} (e : H a = some (.dK kvs)) : TyOf K H (.ref a) (.type "dict")
  | dT {a : Addr} {kvs : List (List Key × V)} (e : H a = some (.dT kvs)) : TyOf K H (.ref a) (.type "dict")
  | ins {a C dx : Addr} {fs : List (Str × V)} (e : H a = some (.ins C dx fs)) (cl : Cls K C) (ha : PySem.W.findIn K (.ref C) "__class__" = some (some (.builtin "object.__class__")))
      (hn : PySem.W.specialIn K (.builtin "object.__class__") "__get__" = some (some (.builtin "getset_descriptor.__get__"))) (htk : PySem.W.takesIn K (.builtin "object.__class__") = some true)
      (hm : PySem.W.mroIn K C (.type "object") = some true) : TyOf K H (.ref a) (.ref C)
/-- isinstance(x, c) for one class c, a built-in or an own one: kitOne's answer -/
theorem isinst_ok {x : V} {u t : Value} (I : Inv X pins σ H s) (rx : RelV x u) (ty : TyOf X.K H x t) (e : PySem.W.kitOne X.K t c = some b) (h : ∀ tk, Q (.bool b) { s with toks := tk }) :
    wpAny (model X.prog X.w) A (call (.builtin "isinstance") [u, c]) Q E s := by
  cases ty with
  | non => cases (show u = Value.none from rx); exact PySem.W.kia_one PySem.W.kitx_none I.kIn True.intro e (fun z => nomatch z) h
  | bl y => cases (show u = Value.bool y from rx); exact PySem.W.kia_one PySem.W.kitx_bool I.kIn True.intro e (fun z => nomatch z) h
  | int i => obtain ⟨t, q⟩ := (show ∃ t, u = Value.int i t from rx); cases q; exact PySem.W.kia_one PySem.W.kitx_int I.kIn True.intro e (fun z => nomatch z) h
  | str y => obtain ⟨t, q⟩ := (show ∃ t, u = Value.str y t from rx); cases q; exact PySem.W.kia_one PySem.W.kitx_str I.kIn True.intro e (fun z => nomatch z) h
  | flt y => obtain ⟨t, q⟩ := (show ∃ t, u = Value.float y t from rx); cases q; exact PySem.W.kia_one PySem.W.kitx_float I.kIn True.intro e (fun z => nomatch z) h
  | @lst a xs ea =>
    cases (show u = Value.ref a from rx)
    obtain ⟨_, _, n, _, h1⟩ := (show ObjOk X.prog X.w H s.heap a (.lst xs) from I.hok a _ ea)
    exact PySem.W.kia_one PySem.W.kitx_list I.kIn ⟨_, h1, rfl⟩ e (fun z => nomatch z) h
  | @frz a ob xs ea =>
    cases (show u = Value.ref a from rx)
    obtain ⟨_, _, _, n, _, h1⟩ := (show ObjOk X.prog X.w H s.heap a (.frz ob (.lst xs)) from I.hok a _ ea)
    exact PySem.W.kia_one PySem.W.kitx_list I.kIn ⟨_, h1, rfl⟩ e (fun z => nomatch z) h
  | @tup a xs ea =>
    cases (show u = Value.ref a from rx)
    obtain ⟨_, _, _, p⟩ := (show ObjOk X.prog X.w H s.heap a (.tup xs) from I.hok a _ ea)
    obtain ⟨o, h1, h2, _⟩ := p
    exact PySem.W.kia_one PySem.W.kitx_tuple I.kIn ⟨o, h1, h2⟩ e (fun z => nomatch z) h
  | @dK a kvs ea =>
    cases (show u = Value.ref a from rx)
    obtain ⟨_, _, vs, _, p⟩ := (show ObjOk X.prog X.w H s.heap a (.dK kvs) from I.hok a _ ea)
    obtain ⟨o, es, ep, h1, h2, _⟩ := p
    exact PySem.W.kia_one PySem.W.kitx_dict I.kIn ⟨o, h1, h2.1⟩ e (fun z => nomatch z) h
  | @dT a kvs ea =>
    cases (show u = Value.ref a from rx)
    obtain ⟨_, _, xs, _, o, es, ep, h1, h2, _⟩ := (show ObjOk X.prog X.w H s.heap a (.dT kvs) from I.hok a _ ea)
    exact PySem.W.kia_one PySem.W.kitx_dict I.kIn ⟨o, h1, h2.1⟩ e (fun z => nomatch z) h
  | @ins a C dx fs ea cl ha hn htk hm =>
    cases (show u = Value.ref a from rx)
    obtain ⟨mA, O, _⟩ := ins_get I.hok ea
    obtain ⟨od, J, _⟩ := O.look
    exact PySem.W.kia_one (PySem.W.kitx_own (cl.get _) cl.hd ha hn htk hm) I.kIn J e (fun z => nomatch z) h
end
end L2

namespace L2
open PySem PySem.Spec PyProof.Rows

/-! ### room -/
structure Room (k : Nat) (A : Around) : Prop where
  hd : A.handled = none
  gd : A.guards = some []
  dp : A.depth + 3 * k + 5 < recursionLimit
  un : A.units + 16 * k + 200 < cLine
theorem Room.mono {j k : Nat} {A : Around} (r : Room k A) (h : j ≤ k) : Room j A := ⟨r.hd, r.gd, by have := r.dp; omega, by have := r.un; omega⟩
theorem Room.deeper {k : Nat} {A : Around} (r : Room (k + 1) A) (env : Env) : Room k (A.deeper env) :=
  ⟨r.hd, r.gd, by have := r.dp; show A.depth + 1 + 3 * k + 5 < _; omega, by have := r.un; show A.units + 3 + 16 * k + 200 < _; omega⟩
theorem Room.depth {k : Nat} {A : Around} (r : Room k A) : A.depth < recursionLimit := by have := r.dp; omega
theorem Room.units {k : Nat} {A : Around} (r : Room k A) : A.units + 64 < cLine := by have := r.un; omega
theorem Room.units0 {k : Nat} {A : Around} (r : Room k A) : A.units < cLine := by have := r.un; omega

/-! ### argument lists and displays -/
def tNil : TA := fun _ H Q => Q [] H
def tCons (ta : TE) (tr : TA) : TA := fun σ H Q => ta σ H fun x H1 => tr σ H1 fun xs H2 => Q (x :: xs) H2
section
variable {X : Cx} {e : Expr} {es : List Expr} {te : TE} {t : TA} {pos : Pos}
theorem pa_nil : PA X [] tNil := fun _ _ _ _ H Q I h => Calls.spliced_nil ⟨[], H, I, .nil, h⟩
theorem pa_cons (ha : PE X e te) (hr : PA X es t) (hs : starEach (e :: es) X.env = (false, eval e X.env) :: starEach es X.env := by rfl) : PA X (e :: es) (tCons te t) := by
  intro pos pins s σ H Q I h
  rw [hs]
  show wpAny _ _ (spliced ((false, eval e X.env) :: backTo pos (starEach es X.env))) _ _ s
  refine Calls.spliced_cons (thn (ha pins s σ H _ I h) fun u s1 ⟨x, H1, I1, r1, q1⟩ => ?_)
  exact thn (hr pos pins s1 σ H1 _ I1 q1) fun us s2 ⟨xs, H2, I2, r2, q2⟩ => ⟨x :: xs, H2, I2, .cons r1 r2, q2⟩

/-- a tuple, a list of written items -/
def tTup (t : TA) : TE := fun σ H Q => t σ H fun xs H1 => xs.length ≤ sizeLine ∧ ∀ p, H1 p = none → Q (.ref p) (upd H1 p (.tup xs))
def tLst (t : TA) : TE := fun σ H Q => t σ H fun xs H1 => xs.length ≤ sizeLine ∧ ∀ p, H1 p = none → Q (.ref p) (upd H1 p (.lst xs))
theorem pe_tup {x1} (h : PA X es t) : PE X (.Tuple es x1 pos) (tTup t) := by
  intro pins s σ H Q I hq
  refine wpAny_Tuple_spliced (thn (h pos pins s σ H _ I hq) fun us s1 ⟨xs, H1, I1, r, z, q⟩ => ⟨by rw [← r.length]; exact z, ?_⟩)
  have hf : H1 s1.heap.objs.size = none := I1.hok.fresh (Nat.le_refl _)
  refine ⟨.ref s1.heap.objs.size, upd H1 s1.heap.objs.size (.tup xs), I1.laid (t' := s1.toks) (fun b u e => Heap.get?_push_of_some _ e) (Nat.le_refl _) ?_, rfl, q _ hf⟩
  exact ⟨z, us, r, ⟨_, Heap.get?_push_size _ rfl, rfl, _, rfl⟩⟩
theorem pe_lst (h : PA X es t) : PE X (.List es pos) (tLst t) := by
  intro pins s σ H Q I hq
  refine wpAny_List_spliced (thn (h pos pins s σ H _ I hq) fun us s1 ⟨xs, H1, I1, r, z, q⟩ => ⟨by rw [← r.length]; exact z, ?_⟩)
  have hf : H1 s1.heap.objs.size = none := I1.hok.fresh (Nat.le_refl _)
  refine ⟨.ref s1.heap.objs.size, upd H1 s1.heap.objs.size (.lst xs), I1.laid (t' := s1.toks) (fun b u e => Heap.get?_push_of_some _ e) (Nat.le_refl _) ?_, rfl, q _ hf⟩
  exact ⟨z, us, 0, r, Heap.get?_push_size _ rfl⟩
end

/-! ### what a def promises -/
/-- a def's promise: the bound arguments in the parameters' order, the heap, the wanted end, the wanted exception -/
abbrev Sp := List V → Hp → VK → XK → Prop
/-- how an exception lies behind a call (file 08 gives it): the callers' frames, abstract heap and state ahead of the call, the wish, the exception, the state -/
abbrev CXT := List Env → Hp → Shared → XK → Value → Shared → Prop

/-- the state at a call -/
structure Env0 (P : Program) (w : World) (K : PySem.W.Frag) (mg : Str → Option Value) (base : Heap) (A : Around) (outer : List Env) (s : Shared) (H : Hp) : Prop where
  frames : A.frames = some outer
  mod : Mod K mg base
  bs : ∀ b o, base.get? b = some o → s.heap.get? b = some o ∧ H b = none
  bsz : base.objs.size ≤ s.heap.objs.size
  funs : s.heap.FunFrames base outer
  frf : ∀ b ∈ frs outer, H b = none
  hok : HOk P w H s.heap
  bare : AllBare s.gens
/-- a call's end -/
def CE (outer : List Env) (P : Program) (w : World) (H : Hp) (s : Shared) (Q : VK) (u : Value) (s' : Shared) : Prop :=
  ∃ v H', s'.os = s.os ∧ AllBare s'.gens ∧ Un (frs outer) [] H H' s.heap s'.heap ∧ HOk P w H' s'.heap ∧ RelV v u ∧ Q v H'
def CR (CX : CXT) (outer : List Env) (P : Program) (w : World) (H : Hp) (s : Shared) (Q : VK) (E : XK) (r : Result) (s' : Shared) : Prop :=
  match r with
  | .ok (.ret u) => CE outer P w H s Q u s'
  | .ok _ => False
  | .error e => CX outer H s E e s'
structure FnOk (P : Program) (w : World) (K : PySem.W.Frag) (mg : Str → Option Value) (base : Heap) (CX : CXT) (k : Nat) (f : Addr) (fd : FuncData) (ps : List Str) (sp : Sp) : Prop where
  len : ∀ vs H Q E, sp vs H Q E → vs.length = ps.length
  run : ∀ (A : Around) (outer : List Env) (s : Shared) (H : Hp) (args : Args) (us : List Value) (vs : List V) (Q : VK) (E : XK), Room k A → Env0 P w K mg base A outer s H → BindsTo s fd args (ps.zip us) → Vals vs us → sp vs H Q E →
    codeAny (model P w) A (.call (.ref f) args) (CR CX outer P w H s Q E) s


section
variable {X : Cx} {pins : List (Addr × Obj)} {σ : St} {H : Hp} {s s' : Shared}
/-- from a body: what a callee wants -/
theorem Inv.env0 (I : Inv X pins σ H s) : Env0 X.prog X.w X.K X.mg X.base X.A X.stack s H :=
  ⟨I.ok.frames, I.ok.mod, I.bs, Nat.le_trans I.ok.bsz I.sz, I.stack, I.stkFree, I.hok, I.bare⟩
/-- behind a call -/
theorem Inv.after {Q : VK} {u : Value} (I : Inv X pins σ H s) (h : CE X.stack X.prog X.w H s Q u s') : EP X pins σ Q u s' := by
  obtain ⟨v, H', os, bare, un, hok, r, q⟩ := h
  obtain ⟨hh, g, d, t, os'⟩ := s'
  obtain rfl : os' = s.os := os
  exact ⟨v, H', I.call (h' := hh) (g' := g) (d' := d) (t' := t) (ch := []) un hok bare (fun b z => absurd z (by simp)), r, q⟩
end

/-! ### calls -/
/-- f(..): the written arguments, then the defaults dvs; E: what is wanted of an exception -/
def tCall (sp : Sp) (dvs : List V) (E : XK) (t : TA) : TE := fun σ H Q => t σ H fun vs H1 => sp (vs ++ dvs) H1 Q E

/-- how the parameters are bound: us the positional arguments, kw the keywords' values by name, ds the defaults that fill up -/
def Binds (K : PySem.W.Frag) (fd : FuncData) (ps : List Str) (ds : List Value) : Prop :=
  ∀ (s : Shared) (us : List Value), K.In s.heap → (us ++ ds).length = ps.length → BindsTo s fd ⟨us, []⟩ (ps.zip (us ++ ds))
/-- every parameter is given -/
theorem Binds.all {K : PySem.W.Frag} {fd : FuncData} {ps : List Str} (h : ∀ us : List Value, us.length = ps.length → bindArgs fd ⟨us, []⟩ = pure (ps.zip us)) : Binds K fd ps [] := fun s us _ hl => by
  rw [List.append_nil] at hl ⊢
  exact .of_eq (h us hl)

/-- an exception of a callee reaches what this body wants of exceptions -/
def Passes (CX : CXT) (X : Cx) (E : XK) : Prop := ∀ (pins : List (Addr × Obj)) (σ : St) (H : Hp) (s : Shared) (e : Value) (s' : Shared), Inv X pins σ H s → CX X.stack H s E e s' → X.xe e s'

section
variable {X : Cx} {CX : CXT} {k : Nat} {f C : Addr} {fd : FuncData} {ps : List Str} {sp : Sp} {dvs : List V} {ds : List Value} {E : XK} {x m : Str} {p pos apos : Pos} {e o : Expr} {es : List Expr} {ta : TE} {t : TA}

/-- the callee runs -/
theorem run_fn {pins : List (Addr × Obj)} {σ : St} {H : Hp} {s : Shared} {Q : VK} {us : List Value} {vs : List V} (F : FnOk X.prog X.w X.K X.mg X.base CX k f fd ps sp) (hr : Room k X.A) (hb : Binds X.K fd ps ds) (hd : Vals dvs ds) (hx : Passes CX X E)
    (I : Inv X pins σ H s) (r : Vals vs us) (h : sp (vs ++ dvs) H Q E) : wpAny (model X.prog X.w) X.A (call (.ref f) us) (EP X pins σ Q) X.xe s := by
  have r2 : Vals (vs ++ dvs) (us ++ ds) := r.append hd
  have hl : (us ++ ds).length = ps.length := by rw [← r2.length]; exact F.len _ _ _ _ h
  refine wpAny_call (codeAny_mono (F.run X.A X.stack s H ⟨us, []⟩ (us ++ ds) (vs ++ dvs) Q E hr I.env0 (hb s us I.kIn hl) r2 h) fun r s' hq => ?_)
  cases r with
  | error e => exact hx pins σ H s e s' I hq
  | ok fl =>
    cases fl with
    | ret u => exact I.after hq
    | next => exact False.elim hq
    | brk => exact False.elim hq
    | cont => exact False.elim hq

theorem pe_call (F : FnOk X.prog X.w X.K X.mg X.base CX k f fd ps sp) (hr : Room k X.A) (hg : Gl X x) (hm : X.mg x = some (.ref f)) (hk : PySem.W.keepIn X.K (.ref f) = true) (hb : Binds X.K fd ps ds) (hd : Vals dvs ds) (hx : Passes CX X E)
    (ha : PA X (e :: es) t) (hdb : (x == ("__debug__" : Str)) = false := by decide) (he : starEach (e :: es) X.env = (false, eval e X.env) :: starEach es X.env := by rfl) (hpl : (backTo pos (starEach es X.env)).any (·.1) = false := by rfl) :
    PE X (.Call (.Name x p) (e :: es) [] pos) (tCall sp dvs E t) := by
  intro pins s σ H Q I h
  refine wpAny_Call_Name_kw (ld_glob I hg hm ?_ hdb)
  refine PySem.W.callWith_K (h₀ := X.base) I.ok.mod.kin hk (thn (ha pos pins s σ H _ I h) fun us s1 ⟨vs, H1, I1, r, q⟩ => ⟨I1.kIn, ?_⟩) he hpl
  exact run_fn F hr hb hd hx I1 r q



end

/-! ### keywords -/
section
variable {X : Cx} {CX : CXT} {k : Nat} {f C : Addr} {fd : FuncData} {ps ks : List Str} {sp : Sp} {E : XK} {x m : Str} {p pos apos kpos : Pos} {e o : Expr} {es : List Expr} {kws : List Keyword} {te ta : TE} {t tk : TA} {nm : Option Str}

variable {g : List Value → List Value → List Value} {gV : List V → List V → List V}
end

/-! ### a def's body keeps its promise -/
/-- names: the parameters first -/
structure FnScope (N P : List Str) (sc : Scope) : Prop where
  kind : sc.kind = .function
  co : sc.isCoroutine = false
  gen : sc.isGenerator = false
  nd : N.Nodup
  pre : N.take P.length = P
  par : ∀ x ∈ P, sc.names.lookup x = some .local ∨ sc.names.lookup x = some .cell
  nofree : ∀ y ∈ sc.names, y.2 ≠ .free

theorem bindL_out {kindOf : Str → Option NameKind} {x : Str} : ∀ {binds : List (Str × Value)} {m : Str → Option Value}, (∀ v, (x, v) ∉ binds) → bindL kindOf binds m x = m x
  | [], _, _ => rfl
  | (n, v) :: r, m, h => by
    unfold bindL
    rw [bindL_out fun w hw => h w (List.mem_cons_of_mem _ hw)]
    split
    · have : x ≠ n := by rintro rfl; exact h v List.mem_cons_self
      simp [this]
    · rfl
theorem bindC_out {kindOf : Str → Option NameKind} {x : Str} : ∀ {binds : List (Str × Value)} {m : Str → Option Value}, (∀ v, (x, v) ∉ binds) → bindC kindOf binds m x = m x
  | [], _, _ => rfl
  | (n, v) :: r, m, h => by
    unfold bindC
    rw [bindC_out fun w hw => h w (List.mem_cons_of_mem _ hw)]
    split
    · rfl
    · have : x ≠ n := by rintro rfl; exact h v List.mem_cons_self
      simp [this]
theorem bindL_get {kindOf : Str → Option NameKind} {x : Str} {v : Value} : ∀ {P : List Str} {vs : List Value} {i : Nat} {m : Str → Option Value}, P.Nodup → P[i]? = some x → vs[i]? = some v → kindOf x = some .local →
    bindL kindOf (P.zip vs) m x = some v
  | [], _, _, _, _, h, _, _ => by simp at h
  | _ :: _, [], _, _, _, _, h, _ => by simp at h
  | p :: P, w :: vs, 0, m, nd, h1, h2, hk => by
    simp at h1 h2; subst h1; subst h2
    show bindL kindOf ((p, w) :: P.zip vs) m p = _
    unfold bindL
    rw [bindL_out fun v hv => (List.nodup_cons.mp nd).1 (List.of_mem_zip hv).1, if_pos hk]
    simp
  | p :: P, w :: vs, i + 1, m, nd, h1, h2, hk => by
    show bindL kindOf ((p, w) :: P.zip vs) m x = _
    unfold bindL
    exact bindL_get (i := i) (List.nodup_cons.mp nd).2 (by simpa using h1) (by simpa using h2) hk
theorem bindC_get {kindOf : Str → Option NameKind} {x : Str} {v : Value} : ∀ {P : List Str} {vs : List Value} {i : Nat} {m : Str → Option Value}, P.Nodup → P[i]? = some x → vs[i]? = some v → kindOf x ≠ some .local →
    bindC kindOf (P.zip vs) m x = some v
  | [], _, _, _, _, h, _, _ => by simp at h
  | _ :: _, [], _, _, _, _, h, _ => by simp at h
  | p :: P, w :: vs, 0, m, nd, h1, h2, hk => by
    simp at h1 h2; subst h1; subst h2
    show bindC kindOf ((p, w) :: P.zip vs) m p = _
    unfold bindC
    rw [bindC_out fun v hv => (List.nodup_cons.mp nd).1 (List.of_mem_zip hv).1, if_neg hk]
    simp
  | p :: P, w :: vs, i + 1, m, nd, h1, h2, hk => by
    show bindC kindOf ((p, w) :: P.zip vs) m x = _
    unfold bindC
    exact bindC_get (i := i) (List.nodup_cons.mp nd).2 (by simpa using h1) (by simpa using h2) hk

/-- the names' values at the entry -/
def start (N : List Str) (vs : List V) : St := vs.map some ++ List.replicate (N.length - vs.length) none

/-- the context of a def's body, at its entry; an exception leaves the frame, then lies as CX says -/
def cxOf (CX : CXT) (P : Program) (w : World) (K : PySem.W.Frag) (mg : Str → Option Value) (base : Heap) (N : List Str) (qual : Str) (scope : Scope) (f : Addr) (cd : Value) (A : Around) (outer : List Env) (s : Shared) (H : Hp) (E : XK) : Cx where
  prog := P
  w := w
  K := K
  mg := mg
  base := base
  A := A.deeper (envOfC qual scope s.heap.objs.size f cd)
  N := N
  s₀ := s
  H₀ := H
  env := envOfC qual scope s.heap.objs.size f cd
  outer := outer
  stack := envOfC qual scope s.heap.objs.size f cd :: outer
  ex := []
  calm := true
  fn := fun _ => true
  pn := []
  xe := fun e s' => wpAny (model P w) (A.deeper (envOfC qual scope s.heap.objs.size f cd)) (leaving (envOfC qual scope s.heap.objs.size f cd) e) (fun _ s'' => CX outer H s E e s'') (fun e' s'' => CX outer H s E e' s'') s'

theorem cell_has {sc : Scope} {n : Nat} {x : Str} (h : sc.names.lookup x = some .cell) : ∃ c, (cellsFrom n sc.names []).lookup x = some c := by
  have q := PySem.W.cellsFrom_some sc.names n [] (.inl h)
  exact Option.isSome_iff_exists.mp q

theorem inv_start {CX : CXT} {P : Program} {w : World} {K : PySem.W.Frag} {mg : Str → Option Value} {base : Heap} {N ps : List Str} {qual : Str} {scope : Scope} {f : Addr} {cd : Value} {A : Around} {outer : List Env} {s s1 : Shared} {H : Hp} {E : XK} {us : List Value} {vs : List V}
    (S : FnScope N ps scope) (hd : A.handled = none) (e0 : Env0 P w K mg base A outer s H) (hl : vs.length = ps.length) (r : Vals vs us)
    (x : InCallC s s.heap.objs.size (bindL (envOfC qual scope s.heap.objs.size f cd).kindOf (ps.zip us) fun _ => none) (cellsFrom (s.heap.objs.size + 1) scope.names []) (bindC (envOfC qual scope s.heap.objs.size f cd).kindOf (ps.zip us) fun _ => none) s1) :
    Inv (cxOf CX P w K mg base N qual scope f cd A outer s H E) [] (start N vs) H s1 := by
  have hpl : ps.length ≤ N.length := by have := congrArg List.length S.pre; rw [List.length_take] at this; omega
  obtain ⟨h1, tk, rfl, hk⟩ := x.done
  have noA : ∀ b : Addr, b ∉ (cxOf CX P w K mg base N qual scope f cd A outer s H E).ex := fun b z => absurd (show b ∈ ([] : List Addr) from z) (by simp)
  refine ⟨⟨e0.mod, S.kind, rfl, rfl, Nat.le_refl _, fun y z c h1 h2 => ?_, fun y hy => ?_, fun y c _ h => ?_, fun _ => hd, Around.frames_deeper e0.frames, .inr ⟨rfl, rfl⟩, fun b z => absurd z (noA b), e0.bs, e0.bsz, fun b _ _ => noA b, fun b z => absurd z (noA b), e0.funs, e0.frf⟩,
    rfl, e0.bare, Un.kept hk, ⟨_, x.toInCall.ns, fun i y v h1 h2 h3 => ?_⟩, fun y c h => ⟨_, x.cell y c h⟩, e0.hok.fresh (Nat.le_refl _), fun y c h => ?_, fun p hp => absurd (show p ∈ ([] : List (Addr × Obj)) from hp) (by simp), e0.hok.kept hk, ?_⟩
  · exact name_of_addr x.apart (PySem.mem_of_lookup h1) (PySem.mem_of_lookup h2)
  · have hy : scope.names.lookup y = some .cell ∨ scope.names.lookup y = some .free := hy
    rcases hy with hy | hy
    · exact cell_has hy
    · exact absurd rfl (S.nofree _ (PySem.mem_of_lookup hy))
  · exact Nat.le_of_lt (x.above y c (PySem.mem_of_lookup h))
  · have hi : i < vs.length := by
      unfold start at h2
      by_cases hi : i < vs.length
      · exact hi
      · rw [List.getElem?_append_right (by simpa using hi)] at h2
        rw [List.getElem?_replicate] at h2
        split at h2 <;> cases h2
    have ha : vs[i]? = some v := by
      unfold start at h2
      rw [List.getElem?_append_left (by simpa using hi), List.getElem?_map] at h2
      cases e : vs[i]? with
      | none => rw [e] at h2; cases h2
      | some a => rw [e] at h2; cases h2; rfl
    obtain ⟨u, hu, rv⟩ := r.get ha
    have hp : ps[i]? = some y := by
      rw [← S.pre, List.getElem?_take_of_lt (by omega)]; exact h1
    have ndP : ps.Nodup := by rw [← S.pre]; exact S.nd.sublist (List.take_sublist _ _)
    refine ⟨u, rv, ?_⟩
    rcases S.par y (List.mem_of_getElem? hp) with k | k
    · exact .inl ⟨k, bindL_get ndP hp hu k⟩
    · obtain ⟨c, e⟩ := cell_has (n := s.heap.objs.size + 1) k
      refine .inr ⟨.inl k, c, e, ?_⟩
      have q := x.cell y c e
      rw [bindC_get ndP hp hu (by show scope.names.lookup y ≠ _; rw [k]; decide)] at q
      exact q
  · exact e0.hok.fresh (Nat.le_of_lt (x.above y c (PySem.mem_of_lookup h)))
  · unfold start
    show _ = N.length
    rw [List.length_append, List.length_map, List.length_replicate]
    omega

/-- THE RULE: a def (or a method) of the text, by its body. The body's reading t is chosen for each entry; it is run at the parameters' values -/
theorem fn_of {CX : CXT} {P : Program} {w : World} {K : PySem.W.Frag} {mg : Str → Option Value} {base : Heap} {k : Nat} {f : Addr} {name qual : Str} {params : Arguments} {body : List Stmt} {scope : Scope} {dV kV doc pm cdv ct oc : Value} {an od : Option Addr}
    {osl : Array (Option Value)} {N ps : List Str} {sp : Sp} (lk : K.lookup f = some ⟨oc, od, .func (PySem.W.fnOf name qual params body scope dV kV doc pm an cdv ct), osl⟩) (hcd : PySem.W.codeIn K cdv qual = true) (S : FnScope N ps scope)
    (len : ∀ vs H Q E, sp vs H Q E → vs.length = ps.length)
    (hbody : ∀ (A : Around) (outer : List Env) (s : Shared) (H : Hp) (vs : List V) (Q : VK) (E : XK), Room k (A.deeper (envOfC qual scope s.heap.objs.size f cdv)) → sp vs H Q E →
      ∃ t, PSs (cxOf CX P w K mg base N qual scope f cdv A outer s H E) body t ∧ t { nx := fun _ H' => Q .non H', rt := Q } (start N vs) H) :
    FnOk P w K mg base CX (k + 1) f (PySem.W.fnOf name qual params body scope dV kV doc pm an cdv ct) ps sp := by
  refine ⟨len, fun A outer s H args us vs Q E hr e0 hb r hsp => ?_⟩
  have hl := len _ _ _ _ hsp
  have KX : K.In s.heap := e0.mod.kin.keeps fun b o e => (e0.bs b o e).1
  have lim : s.heap.NoLimit := e0.mod.nolimit.keeps fun b o e => (e0.bs b o e).1
  have hkind : ∀ y ∈ ps.zip us, scope.names.lookup y.1 = some .local ∨ (scope.names.lookup y.1 = some .cell ∧ ((cellsFrom (s.heap.objs.size + 1) scope.names []).lookup y.1).isSome = true) := fun ⟨n, v⟩ hy => by
    rcases S.par n (List.of_mem_zip hy).1 with q | q
    · exact .inl q
    · exact .inr ⟨q, PySem.W.cellsFrom_some _ _ _ (.inl q)⟩
  refine codeAny_call_function hr.depth (KX _ _ lk) rfl S.co S.gen rfl (PySem.W.codeRec_of KX hcd) (hb _ _ _ _ ?_)
  refine wpAny_newFunctionEnv_cells S.kind hkind fun env he s1 x => ?_
  subst he
  refine ⟨lim.keeps x.toInCall.keep, codeAny_func ?_⟩
  obtain ⟨t, ht, hq⟩ := hbody A outer s H vs Q E (hr.deeper _) hsp
  have I : Inv (cxOf CX P w K mg base N qual scope f cdv A outer s H E) [] (start N vs) H s1 := inv_start S hr.hd e0 hl r x
  refine wpAny_mono (ht [] s1 (start N vs) H _ I hq) (fun fl s' hs => ?_) fun e s' hs => hs
  have fin : ∀ {σ' : St} {H' : Hp} {v : V} {u : Value}, Inv (cxOf CX P w K mg base N qual scope f cdv A outer s H E) [] σ' H' s' → RelV v u → Q v H' → CE outer P w H s Q u s' :=
    fun {σ' H' v u} J rv q => ⟨v, H', J.os, J.bare, J.base, J.hok, rv, q⟩
  cases fl with
  | ret u =>
    obtain ⟨v, σ', H', J, rv, q⟩ := hs
    exact fin J rv q
  | next =>
    obtain ⟨σ', H', J, q⟩ := hs
    exact fin (v := V.non) (u := Value.none) J rfl q
  | brk =>
    obtain ⟨_, _, _, q⟩ := hs
    exact False.elim q
  | cont =>
    obtain ⟨_, _, _, q⟩ := hs
    exact False.elim q
end L2

namespace L2
open PySem PySem.Spec PyProof.Rows
section
variable {X : Cx} {x : Str} {p pos : Pos} {e : Expr} {es : List Expr} {t : TA} {id T : String} {r : List V → Hp → VK → Prop}

def tCB (r : List V → Hp → VK → Prop) (t : TA) : TE := fun σ H Q => t σ H fun vs H1 => r vs H1 Q
/-- f(e, ..), f a built-in function -/
theorem pe_callB (hc : CallR X (.builtin id) r) (hg : Gl X x) (hm : X.mg x = none) (hv : bootBuiltins x = some (.builtin id)) (ha : PA X (e :: es) t) (hn : x ≠ "__name__" := by decide) (hdb : (x == ("__debug__" : Str)) = false := by decide)
    (he : starEach (e :: es) X.env = (false, eval e X.env) :: starEach es X.env := by rfl) (hpl : (backTo pos (starEach es X.env)).any (·.1) = false := by rfl) : PE X (.Call (.Name x p) (e :: es) [] pos) (tCB r t) := by
  intro pins s σ H Q I h
  refine wpAny_Call_Name_kw (ld_blt I hg hm hv ?_ hn hdb)
  exact PyProof.Rows.callWith_builtin1 (thn (ha pos pins s σ H _ I h) fun us s1 ⟨vs, H1, I1, r1, q1⟩ => hc pins s1 σ H1 vs us Q I1 r1 q1) he hpl
/-- T(e, ..), T a built-in type -/
theorem pe_callTy (hc : CallR X (.type T) r) (hg : Gl X x) (hm : X.mg x = none) (hv : bootBuiltins x = some (.type T)) (ha : PA X (e :: es) t) (hn : x ≠ "__name__" := by decide) (hdb : (x == ("__debug__" : Str)) = false := by decide)
    (he : starEach (e :: es) X.env = (false, eval e X.env) :: starEach es X.env := by rfl) (hpl : (backTo pos (starEach es X.env)).any (·.1) = false := by rfl) : PE X (.Call (.Name x p) (e :: es) [] pos) (tCB r t) := by
  intro pins s σ H Q I h
  refine wpAny_Call_Name_kw (ld_blt I hg hm hv ?_ hn hdb)
  exact PyProof.Rows.callWith_type1 (thn (ha pos pins s σ H _ I h) fun us s1 ⟨vs, H1, I1, r1, q1⟩ => hc pins s1 σ H1 vs us Q I1 r1 q1) he hpl
/-- T() -/
theorem pe_callTy0 (hc : CallR X (.type T) r) (hg : Gl X x) (hm : X.mg x = none) (hv : bootBuiltins x = some (.type T)) (hn : x ≠ "__name__" := by decide) (hdb : (x == ("__debug__" : Str)) = false := by decide) :
    PE X (.Call (.Name x p) [] [] pos) (tCB r tNil) := by
  intro pins s σ H Q I h
  refine wpAny_Call_Name_kw (ld_blt I hg hm hv ?_ hn hdb)
  exact PyProof.Rows.callWith_type0 (hc pins s σ H [] [] Q I .nil h)
end
end L2

namespace HT
open PySem PyProof.Rows



section
open PySem.SeqAt
open PySem.AutoSeq1 (wpAny_loadPart')
open PySem.MeetsSeq PySem.MeetsSeq2 PySem.MeetsSeq3

end

section
variable {prog : Program} {w : World} {A : Around} {E : Value → Shared → Prop} {s : Shared}


/-- t + u, t not empty -/
theorem cat_tup {t b : Addr} {vs ws : List Value} {Q : Value → Shared → Prop} (ht : IsTup s.heap t vs.toArray) (hb : IsTup s.heap b ws.toArray) (hv : vs ≠ [])
    (h1 : ws = [] → Q (.ref t) s) (h2 : ws ≠ [] → Q (.ref s.heap.objs.size) { s with heap := s.heap.push { cls := .type "tuple", data := .seq (vs ++ ws).toArray } })
    (hsz : vs.length + ws.length ≤ sizeLine) : wpAny (model prog w) A (binaryOp .Add (.ref t) (.ref b)) Q E s := by
  obtain ⟨⟨cls, dd, data, sl⟩, ho, hc, n, hd⟩ := id ht
  obtain ⟨⟨cls2, dd2, data2, sl2⟩, ho2, hc2, n2, hd2⟩ := id hb
  simp only at hc hd hc2 hd2
  subst hc hd hc2 hd2
  have e : vs.toArray ++ ws.toArray = (vs ++ ws).toArray := by simp
  by_cases hw : ws = []
  · exact concat_meets ⟨_, ho, rfl⟩ ⟨_, ho2, rfl⟩ noFill_tuple_add seq_tuple_add PySem.F.slot_tuple_add PySem.F.entry_tuple_add (PySem.F.args_tuple_add_2 _ _)
      (tuple_addW1 t b vs.toArray ws.toArray n n2 dd dd2 sl sl2 (by simpa using hv) (by simp [hw])) ⟨ho, ho2, h1 hw⟩
  · refine concat_meets ⟨_, ho, rfl⟩ ⟨_, ho2, rfl⟩ noFill_tuple_add seq_tuple_add PySem.F.slot_tuple_add PySem.F.entry_tuple_add (PySem.F.args_tuple_add_2 _ _)
      (tuple_addW2 t b vs.toArray ws.toArray n n2 dd dd2 sl sl2 (by simpa using hv) (by simpa using hw) (by rw [List.size_toArray, List.size_toArray]; exact hsz)) ⟨ho, ho2, ?_⟩
    rw [e]
    exact h2 hw

/-! ### t[a:b], not the whole -/
/-- a slice's bound as a place among n (d where it is left out) -/
def sIx (n d : Nat) : Option Int → Nat
  | none => d
  | some v => if v < 0 then (v + (n : Int)).toNat else min v.toNat n
theorem sIx_le (n d : Nat) (hd : d ≤ n) (o : Option Int) : sIx n d o ≤ n := by
  cases o with
  | none => exact hd
  | some v =>
    show (if v < 0 then (v + (n : Int)).toNat else min v.toNat n) ≤ n
    by_cases hv : v < 0
    · rw [if_pos hv]; omega
    · rw [if_neg hv]; exact Nat.min_le_right _ _
theorem clip_eq (v : Int) (n d : Nat) : (if v < 0 then max (v + (n : Int)) 0 else min v (n : Int)) = ((sIx n d (some v) : Nat) : Int) := by
  show (if v < 0 then max (v + (n : Int)) 0 else min v (n : Int)) = (((if v < 0 then (v + (n : Int)).toNat else min v.toNat n) : Nat) : Int)
  by_cases hv : v < 0
  · simp only [if_pos hv]; omega
  · simp only [if_neg hv]; omega
theorem adjust_gen (lo hi : Option Int) (n : Nat) : Builtin.Slice.sliceAdjust lo hi 1 (n : Int) = (((sIx n 0 lo : Nat) : Int), ((sIx n n hi : Nat) : Int)) := by
  have h1 : ¬ ((1 : Int) < 0) := by omega
  unfold Builtin.Slice.sliceAdjust
  simp only [h1, if_false]
  refine Prod.ext ?_ ?_
  · cases lo with
    | none => rfl
    | some v => exact clip_eq v n 0
  · cases hi with
    | none => rfl
    | some v => exact clip_eq v n n
theorem places_gen (i j : Nat) : Builtin.Slice.slicePlaces (i : Int) (j : Int) 1 = j - i := by
  unfold Builtin.Slice.slicePlaces
  have h1 : (1 : Int) > 0 := by omega
  simp only [h1, if_true, Int.ediv_one]
  split <;> omega
theorem slicePart_ {v : Value} {o : Option Int} {Q : Option Int → Shared → Prop} (p : IsPart v o) (h : Q o s) : wpAny (model prog w) A (Builtin.Slice.slicePartIndex v) Q E s := by
  cases p with
  | none => exact slicePart_none h
  | int i t => exact slicePart_int h
theorem sliceApplied_gen {sl : Addr} {vl vu : Value} {lo hi : Option Int} {n : Nat} {Q : Int × Int × Nat → Shared → Prop} (hs : s.heap.IsSliceOf sl vl vu .none) (pl : IsPart vl lo) (pu : IsPart vu hi)
    (h : Q (((sIx n 0 lo : Nat) : Int), 1, sIx n n hi - sIx n 0 lo) s) : wpAny (model prog w) A (Builtin.Slice.sliceApplied (.ref sl) (pure (n : Int))) Q E s := by
  obtain ⟨os, hos, hcs, hds⟩ := id hs
  unfold Builtin.Slice.sliceApplied Builtin.Slice.sliceFields
  refine wpAny_bind (wpAny_bind (wpAny_field hos hds (x := vl) rfl (wpAny_bind (wpAny_field hos hds (x := vu) rfl (wpAny_bind (wpAny_field hos hds (x := .none) rfl (wpAny_pure ?_)))))))
  refine wpAny_bind (slicePart_none ?_)
  show wpAny _ _ (if ((1 : Int) == 0) = true then _ else _) _ _ s
  rw [if_neg (by decide)]
  refine wpAny_bind (slicePart_ pl (wpAny_bind (slicePart_ pu (wpAny_bind (wpAny_pure ?_)))))
  show wpAny _ _ (match Builtin.Slice.sliceAdjust lo hi 1 (n : Int) with | (lo, hi) => pure (lo, (1 : Int), Builtin.Slice.slicePlaces lo hi 1)) _ _ s
  rw [adjust_gen lo hi n]
  show wpAny _ _ (pure (((sIx n 0 lo : Nat) : Int), (1 : Int), Builtin.Slice.slicePlaces ((sIx n 0 lo : Nat) : Int) ((sIx n n hi : Nat) : Int) 1)) _ _ s
  rw [places_gen]
  exact wpAny_pure h
theorem pick_gen (xs : Array Value) (i k : Nat) : ((List.range k).filterMap fun (m : Nat) => xs[((i : Int) + (m : Int) * 1).toNat]?).toArray = ((xs.toList.drop i).take k).toArray := by
  have e : (fun (m : Nat) => xs[((i : Int) + (m : Int) * 1).toNat]?) = fun m => xs[i + m]? := by
    funext m
    have : ((i : Int) + (m : Int) * 1).toNat = i + m := by omega
    rw [this]
  rw [e]
  have := pick_run xs i k
  rw [List.filterMap_map] at this
  have e2 : ((fun x => xs[x]?) ∘ fun x => i + x) = fun m => xs[i + m]? := rfl
  rw [e2] at this
  rw [this]

theorem getItem_tuple_cut {t sl : Addr} {items : Array Value} {vl vu : Value} {lo hi : Option Int} {Q : Value → Shared → Prop} (ht : IsTup s.heap t items) (hs : s.heap.IsSliceOf sl vl vu .none) (pl : IsPart vl lo) (pu : IsPart vu hi)
    (hw : ¬ (sIx items.size 0 lo = 0 ∧ sIx items.size items.size hi = items.size))
    (h : Q (.ref s.heap.objs.size) { s with heap := s.heap.push { cls := .type "tuple", data := .seq ((items.toList.drop (sIx items.size 0 lo)).take (sIx items.size items.size hi - sIx items.size 0 lo)).toArray } })
    (hsz : items.size ≤ sizeLine) : wpAny (model prog w) A (getItem (.ref t) (.ref sl)) Q E s := by
  have htake : sizeOk (.seq ((items.toList.drop (sIx items.size 0 lo)).take (sIx items.size items.size hi - sIx items.size 0 lo)).toArray) := by
    show ((items.toList.drop (sIx items.size 0 lo)).take (sIx items.size items.size hi - sIx items.size 0 lo)).toArray.size ≤ sizeLine
    rw [List.size_toArray, List.length_take, List.length_drop, Array.length_toList]
    omega
  have hj : sIx items.size items.size hi ≤ items.size := sIx_le _ _ (Nat.le_refl _) hi
  obtain ⟨os, hos, hcs, hds⟩ := id hs
  have hTs : s.TypeIs (.ref sl) "slice" := ⟨os, hos, hcs⟩
  unfold getItem
  try with_reducible refine wpAny_holding ?_
  first | refine wpAny_bind (wpAny_pure ?_) | skip
  refine wpAny_bind (wpAny_sequenceKey ht.typeIs (by decide) ?_)
  refine wpAny_bind (wpAny_callSpecial?_slot (name := Str.ofString "__getitem__") ht.typeIs PyProof.Rows.slot_tuple_getitem
    (wpAny_call_entry PyProof.Rows.slot_tuple_getitem ht.typeIs entry_tuple_getitem ?_ (args_tuple_getitem _ _)))
  show wpAny _ _ (Builtin.Tuple.tupleItemsOf (.ref t) >>= _) _ _ s
  refine wpAny_bind (tupleItemsOf_ ht ?_)
  refine wpAny_bind (wpAny_typeOf hTs ?_)
  rw [if_pos (by decide)]
  refine wpAny_bind (sliceApplied_gen hs pl pu ?_)
  have hno : ¬ ((((sIx items.size 0 lo : Nat) : Int) == 0 && (1 : Int) == 1 && (sIx items.size items.size hi - sIx items.size 0 lo) == items.size) = true) := by
    intro q
    rw [Bool.and_eq_true, Bool.and_eq_true] at q
    have q1 : ((sIx items.size 0 lo : Nat) : Int) = 0 := eq_of_beq q.1.1
    have q2 : sIx items.size items.size hi - sIx items.size 0 lo = items.size := eq_of_beq q.2
    exact hw ⟨by omega, by omega⟩
  show wpAny _ _ (if (((sIx items.size 0 lo : Nat) : Int) == 0 && (1 : Int) == 1 && (sIx items.size items.size hi - sIx items.size 0 lo) == items.size) = true then _ else _) _ _ s
  rw [if_neg hno, pick_gen]
  first
    | exact wpAny_bind (m := Builtin.Tuple.tupleExact _) (wpAny_newObj_type (wpAny_pure ⟨_, rfl, wpAny_pure h⟩) htake)
    | exact wpAny_bind (m := Builtin.Tuple.tupleExact _) (wpAny_newObj_type (wpAny_bind (wpAny_pure (wpAny_pure ⟨_, rfl, wpAny_pure h⟩))) htake)
    | exact wpAny_bind (wpAny_bind (m := Builtin.Tuple.tupleExact _) (wpAny_newObj_type (wpAny_pure (wpAny_pure ⟨_, rfl, wpAny_pure h⟩)) htake))
    | exact wpAny_bind (wpAny_bind (m := Builtin.Tuple.tupleExact _) (wpAny_newObj_type (wpAny_pure ⟨_, rfl, wpAny_pure h⟩) htake))
end
end HT

namespace L2
open PySem PySem.Spec PyProof.Rows

/-! ### the parts of a slice -/
abbrev TO := St → Hp → (Option Int → Hp → Prop) → Prop
/-- a slice's part (left out, or an int) -/
def PO (X : Cx) (e : Option Expr) (t : TO) : Prop :=
  ∀ (pins : List (Addr × Obj)) (s : Shared) (σ : St) (H : Hp) (Q : Option Int → Hp → Prop), Inv X pins σ H s → t σ H Q →
    wpAny (model X.prog X.w) X.A (evalPart e X.env) (fun u s' => ∃ o H', Inv X pins σ H' s' ∧ IsPart u o ∧ Q o H') X.xe s
def tNoPart : TO := fun _ H Q => Q none H
def tPart (t : TE) : TO := fun σ H Q => t σ H fun x H1 => ∃ i, x = .int i ∧ Q (some i) H1


section
variable {X : Cx} {e : Expr} {te : TE} {lo hi : Option Expr} {tl th : TO} {pos p2 : Pos}

theorem po_none : PO X none tNoPart := by
  intro pins s σ H Q I h
  rw [evalPart_none]
  exact wpAny_pure ⟨none, H, I, .none, h⟩
theorem po_some (h : PE X e te) : PO X (some e) (tPart te) := by
  intro pins s σ H Q I hw
  rw [evalPart_some]
  refine thn (h pins s σ H _ I hw) fun u s1 ⟨x, H1, I1, r1, q1⟩ => ?_
  obtain ⟨i, rfl, q⟩ := q1
  obtain ⟨t, rfl⟩ := r1
  exact ⟨some i, H1, I1, .int i t, q⟩

/-- what a slice of a value is, by values: the slice object stands at sl -/
def SlR (X : Cx) (r : V → Option Int → Option Int → Hp → VK → Prop) : Prop :=
  ∀ (pins : List (Addr × Obj)) (s : Shared) (σ : St) (H : Hp) (x : V) (v vl vu : Value) (lo hi : Option Int) (sl : Addr) (Q : VK), Inv X pins σ H s → RelV x v → s.heap.IsSliceOf sl vl vu .none → IsPart vl lo → IsPart vu hi → r x lo hi H Q →
    ∃ T id, typeLookup (.type T) "__getitem__" = pure (some (.builtin id)) ∧ s.TypeIs v T ∧ wpAny (model X.prog X.w) X.A (getItem v (.ref sl)) (EP X pins σ Q) X.xe s
def tSl (r : V → Option Int → Option Int → Hp → VK → Prop) (te : TE) (tl th : TO) : TE := fun σ H Q => te σ H fun x H1 => tl σ H1 fun l H2 => th σ H2 fun u H3 => r x l u H3 Q
/-- a[lo:hi], any a -/
theorem pe_slice {r : V → Option Int → Option Int → Hp → VK → Prop} (hr : SlR X r) (he : PE X e te) (hl : PO X lo tl) (hu : PO X hi th) : PE X (.Subscript e (.Slice lo hi none p2) pos) (tSl r te tl th) := by
  intro pins s σ H Q I h
  refine Subscript_ (thn (he pins s σ H _ I h) fun v s1 ⟨x, H1, I1, r1, q1⟩ => ?_)
  refine wpAny_Slice (thn (hl pins s1 σ H1 _ I1 q1) fun vl s2 ⟨l, H2, I2, pl, q2⟩ => thn (hu pins s2 σ H2 _ I2 q2) fun vu s3 ⟨u, H3, I3, pu, q3⟩ => ?_)
  rw [evalPart_none]
  refine wpAny_pure ?_
  have I4 : Inv X pins σ H3 { s3 with heap := s3.heap.push { cls := .type "slice", data := .fields #[vl, vu, .none] } } := I3.kept (t' := s3.toks) fun b ob q => Heap.get?_push_of_some _ q
  obtain ⟨T, id, hT, ht, hg⟩ := hr pins { s3 with heap := s3.heap.push { cls := .type "slice", data := .fields #[vl, vu, .none] } } σ H3 x v vl vu l u s3.heap.objs.size Q I4 r1 (Heap.IsSliceOf.new ..) pl pu q3
  show wpAny (model X.prog X.w) X.A (subscriptTail e (.Slice lo hi none p2) v (.ref s3.heap.objs.size)) (EP X pins σ Q) X.xe { s3 with heap := s3.heap.push { cls := .type "slice", data := .fields #[vl, vu, .none] } }
  exact tail_any (ops := [.ref s3.heap.objs.size, v]) ht hT hg (by with_unfolding_all rfl)

/-- the items of xs[lo:hi] -/
def cutV (xs : List V) (lo hi : Option Int) : List V := (xs.drop (HT.sIx xs.length 0 lo)).take (HT.sIx xs.length xs.length hi - HT.sIx xs.length 0 lo)
theorem cutV_length (xs : List V) (lo hi : Option Int) : (cutV xs lo hi).length ≤ xs.length := by
  unfold cutV
  rw [List.length_take, List.length_drop]
  omega
/-- t[lo:hi], not the whole of it (the whole would be t itself) -/
def rSlT (K : PySem.W.Frag) : V → Option Int → Option Int → Hp → VK → Prop := fun x lo hi H Q => ∃ a xs, x = .ref a ∧ SqT K H a xs ∧
  ¬ (HT.sIx xs.length 0 lo = 0 ∧ HT.sIx xs.length xs.length hi = xs.length) ∧ ∀ p, H p = none → Q (.ref p) (upd H p (.tup (cutV xs lo hi)))
theorem sl_tup : SlR X (rSlT X.K) := by
  intro pins s σ H x v vl vu lo hi sl Q I rx hs pl pu h
  obtain ⟨a, xs, rfl, hx, hw, q⟩ := h
  cases rx
  obtain ⟨its, r, ht, hz⟩ := I.tuple hx
  have hlen : its.toArray.size = xs.length := by rw [List.size_toArray]; exact r.length.symm
  refine ⟨"tuple", _, PyProof.Rows.slot_tuple_getitem.lookup, ht.typeIs, ?_⟩
  refine HT.getItem_tuple_cut ht hs pl pu (by rw [hlen]; exact hw) ?_ (by rw [hlen]; exact hz)
  rw [hlen]
  refine ⟨.ref s.heap.objs.size, _, I.laid (t' := s.toks) (o := .tup (cutV xs lo hi)) (fun b ob q => Heap.get?_push_of_some _ q) (Nat.le_refl _) ?_, rfl, q _ (I.hok.fresh (Nat.le_refl _))⟩
  exact ⟨Nat.le_trans (cutV_length xs lo hi) hz, _, (r.drop (HT.sIx xs.length 0 lo)).take (HT.sIx xs.length xs.length hi - HT.sIx xs.length 0 lo), IsTup.new _ _⟩

/-! ### t < u, t + u -/
/-- t + u, t not empty: u empty gives t itself -/
def rCatT (K : PySem.W.Frag) : R2 := fun x y H Q => ∃ a b xs ys, x = .ref a ∧ y = .ref b ∧ SqT K H a xs ∧ SqT K H b ys ∧ xs ≠ [] ∧ xs.length + ys.length ≤ sizeLine ∧
  (ys = [] → Q (.ref a) H) ∧ (ys ≠ [] → ∀ p, H p = none → Q (.ref p) (upd H p (.tup (xs ++ ys))))
theorem Vals.nil_iff {xs : List V} {us : List Value} (r : Vals xs us) : us = [] ↔ xs = [] := by
  cases r with
  | nil => simp
  | cons _ _ => simp
theorem op_catT : OpR X (binaryOp .Add) (rCatT X.K) := by
  intro pins s σ H x y v u Q I rx ry h
  obtain ⟨a, b, xs, ys, rfl, rfl, ha, hb, hx, hz, q1, q2⟩ := h
  cases rx
  cases ry
  obtain ⟨its, r1, p1, _⟩ := I.tuple ha
  obtain ⟨its2, r2, p2, _⟩ := I.tuple hb
  refine HT.cat_tup p1 p2 (fun z => hx (r1.nil_iff.mp z)) (fun z => ⟨.ref a, H, I, rfl, q1 (r2.nil_iff.mp z)⟩) (fun z => ?_) (by rw [← r1.length, ← r2.length]; exact hz)
  refine ⟨.ref s.heap.objs.size, _, I.laid (t' := s.toks) (o := .tup (xs ++ ys)) (fun b ob q => Heap.get?_push_of_some _ q) (Nat.le_refl _) ?_, rfl, q2 (fun w => z (r2.nil_iff.mpr w)) _ (I.hok.fresh (Nat.le_refl _))⟩
  exact ⟨by rw [List.length_append]; exact hz, _, r1.append r2, IsTup.new _ _⟩
end
end L2

namespace L2
open PySem PySem.Spec PyProof.Rows

/-! ### places -/
/-- the place that an index of any sign means -/
def ixN (n : Nat) (i : Int) : Option Nat := if 0 ≤ i then (if i < n then some i.toNat else none) else if -(n : Int) ≤ i then some (i + n).toNat else none
def atI {α : Type} (xs : List α) (i : Int) : Option α := (ixN xs.length i).bind fun j => xs[j]?
theorem ixN_seq {n : Nat} {i : Int} {j : Nat} (h : ixN n i = some j) : seqIndex? i n = some j ∧ j < n ∧ -(n : Int) ≤ i ∧ i < n := by
  unfold ixN at h
  by_cases h0 : 0 ≤ i
  · rw [if_pos h0] at h
    by_cases h1 : i < n
    · rw [if_pos h1] at h
      have e : i.toNat = j := Option.some.inj h
      exact ⟨by rw [seqIndex_of h0 h1, e], by omega, by omega, h1⟩
    · rw [if_neg h1] at h; cases h
  · rw [if_neg h0] at h
    by_cases h1 : -(n : Int) ≤ i
    · rw [if_pos h1] at h
      have e : (i + n).toNat = j := Option.some.inj h
      exact ⟨by rw [seqIndex_neg (by omega) h1, e], by omega, h1, by omega⟩
    · rw [if_neg h1] at h; cases h
theorem atI_get {α : Type} {xs : List α} {i : Int} {v : α} (h : atI xs i = some v) : ∃ j, seqIndex? i xs.length = some j ∧ xs[j]? = some v ∧ j < xs.length ∧ -(xs.length : Int) ≤ i ∧ i < xs.length := by
  unfold atI at h
  cases e : ixN xs.length i with
  | none => rw [e] at h; cases h
  | some j =>
    rw [e] at h
    obtain ⟨h1, h2, h3, h4⟩ := ixN_seq e
    exact ⟨j, h1, h, h2, h3, h4⟩
theorem atI_nat {α : Type} {xs : List α} {j : Nat} {v : α} (h : xs[j]? = some v) : atI xs (j : Int) = some v := by
  have hj : j < xs.length := (List.getElem?_eq_some_iff.mp h).1
  have e : ixN xs.length (j : Int) = some j := by
    unfold ixN
    rw [if_pos (by omega), if_pos (by omega)]; simp
  unfold atI; rw [e]; exact h

/-! ### what may be subscripted -/
/-- what stands as an index of a plain subscript -/
def PlainIx (b : Expr) : Prop := ∀ o i, subscripted b false o i = operate [o, i] (getItem o i)
/-- a subscript by values -/
def IxR (X : Cx) (r : R2) : Prop :=
  ∀ (value slice : Expr) (pins : List (Addr × Obj)) (s : Shared) (σ : St) (H : Hp) (x y : V) (v u : Value) (Q : VK), Inv X pins σ H s → RelV x v → RelV y u → r x y H Q →
    subscripted slice false v u = operate [v, u] (getItem v u) → wpAny (model X.prog X.w) X.A (subscriptTail value slice v u) (EP X pins σ Q) X.xe s
/-- a call of a builtin's method by values: the receiver, the arguments -/
def MtR (X : Cx) (id : String) (r : V → List V → Hp → VK → Prop) : Prop :=
  ∀ (pins : List (Addr × Obj)) (s : Shared) (σ : St) (H : Hp) (x : V) (xs : List V) (v : Value) (us : List Value) (Q : VK), Inv X pins σ H s → RelV x v → Vals xs us → r x xs H Q →
    wpAny (model X.prog X.w) X.A (call (.builtin id) (v :: us)) (EP X pins σ Q) X.xe s
section
variable {X : Cx} {a b : Expr} {ta tb : TE} {pos : Pos}
/-- a[b] -/
theorem pe_ix {r : R2} (hr : IxR X r) (ha : PE X a ta) (hb : PE X b tb) (hs : PlainIx b) : PE X (.Subscript a b pos) (tOp r ta tb) := by
  intro pins s σ H Q I h
  exact Subscript_ (binT ha hb I h fun v u s2 x y H2 I2 rx ry q => hr a b pins s2 σ H2 x y v u Q I2 rx ry q (hs _ _))

def rIxL (K : PySem.W.Frag) : R2 := fun x y H Q => ∃ p xs i v, x = .ref p ∧ y = .int i ∧ SqL K H p xs ∧ atI xs i = some v ∧ Q v H
def rIxT (K : PySem.W.Frag) : R2 := fun x y H Q => ∃ p xs i v, x = .ref p ∧ y = .int i ∧ SqT K H p xs ∧ atI xs i = some v ∧ Q v H
theorem ix_list : IxR X (rIxL X.K) := by
  intro value slice pins s σ H x y v u Q I rx ry h hs
  obtain ⟨p, xs, i, z, rfl, rfl, hq, he, q⟩ := h
  cases rx
  obtain ⟨t, rfl⟩ := ry
  obtain ⟨its, r, pl, hz⟩ := I.list hq
  obtain ⟨j, h1, h2, h3, h4, h5⟩ := atI_get he
  obtain ⟨w, ew, rw'⟩ := r.get h2
  have hl := r.length
  have hn := line63
  have fin : EP X pins σ Q w s := ⟨z, H, I, rw', q⟩
  by_cases h0 : 0 ≤ i
  · have hj : i.toNat = j := by
      rw [seqIndex_of h0 h5] at h1
      exact Option.some.inj h1
    exact item_listR pl.isList h0 (by omega) (by rw [hj]; simpa using ew) fin hs
  · have hj : (i + (its.toArray.size : Int)).toNat = j := by
      rw [seqIndex_neg (by omega) h4] at h1
      rw [List.size_toArray, ← hl]
      exact Option.some.inj h1
    exact subscriptTail_builtinR (x := w) pl.isList.typeIs slot_list_getitem.lookup
      (wpAny_getItem_list_neg (Q := fun r s' => r = w ∧ EP X pins σ Q r s') pl.isList (by omega) (by rw [List.size_toArray] <;> omega) (by omega) (by rw [hj]; simpa using ew) ⟨rfl, fin⟩) hs
theorem ix_tup : IxR X (rIxT X.K) := by
  intro value slice pins s σ H x y v u Q I rx ry h hs
  obtain ⟨p, xs, i, z, rfl, rfl, hq, he, q⟩ := h
  cases rx
  obtain ⟨t, rfl⟩ := ry
  obtain ⟨its, r, pl, hz⟩ := I.tuple hq
  obtain ⟨j, h1, h2, h3, h4, h5⟩ := atI_get he
  obtain ⟨w, ew, rw'⟩ := r.get h2
  have hl := r.length
  have hn := line63
  have fin : EP X pins σ Q w s := ⟨z, H, I, rw', q⟩
  exact subscriptTail_builtinR (x := w) pl.typeIs slot_tuple_getitem.lookup
    (getItem_tuple (j := j) (Q := fun r s' => r = w ∧ EP X pins σ Q r s') pl (by omega) (by omega) (by rw [List.size_toArray, ← hl]; exact h1) (by simpa using ew) ⟨rfl, fin⟩) hs

/-! ### xs[i] = v, any sign -/

/-! ### slices -/
theorem slice_bounds (lo hi : Option Int) (n : Nat) : (sliceBounds lo hi none n).1 = ((HT.sIx n 0 lo : Nat) : Int) ∧ (sliceBounds lo hi none n).2.1 = ((HT.sIx n n hi : Nat) : Int) ∧ (sliceBounds lo hi none n).2.2 = 1 := by
  refine ⟨?_, ?_, rfl⟩
  · cases lo with
    | none => simp [sliceBounds, HT.sIx]
    | some i =>
      simp only [sliceBounds, HT.sIx, Option.getD_none, show (1 : Int) > 0 by decide, if_true]
      by_cases h : i < 0
      · simp only [h, if_true] <;> omega
      · simp only [h, if_false] <;> omega
  · cases hi with
    | none => simp [sliceBounds, HT.sIx]
    | some i =>
      simp only [sliceBounds, HT.sIx, Option.getD_none, show (1 : Int) > 0 by decide, if_true]
      by_cases h : i < 0
      · simp only [h, if_true] <;> omega
      · simp only [h, if_false] <;> omega
theorem slicePick_cut (its : List Value) (lo hi : Option Int) : slicePick its.toArray lo hi none = ((its.drop (HT.sIx its.length 0 lo)).take (HT.sIx its.length its.length hi - HT.sIx its.length 0 lo)).toArray := by
  obtain ⟨h1, h2, h3⟩ := slice_bounds lo hi its.toArray.size
  unfold slicePick
  rw [h1, h2, h3]
  simp only [sliceRange_one, pick_run, List.size_toArray] <;> rfl
/-- xs[lo:hi] of a list: a new list -/
def rSlL (K : PySem.W.Frag) : V → Option Int → Option Int → Hp → VK → Prop := fun x lo hi H Q => ∃ a xs, x = .ref a ∧ SqL K H a xs ∧ ∀ p, H p = none → Q (.ref p) (upd H p (.lst (cutV xs lo hi)))
theorem sl_list : SlR X (rSlL X.K) := by
  intro pins s σ H x v vl vu lo hi sl Q I rx hs pl pu h
  obtain ⟨a, xs, rfl, hx, q⟩ := h
  cases rx
  obtain ⟨its, r, ht, hz⟩ := I.list hx
  have hlen := r.length
  refine ⟨"list", _, slot_list_getitem.lookup, ht.isList.typeIs, ?_⟩
  refine wpAny_getItem_list_slice ht.isList hs pl pu .none (by simp) ?_ (by rw [List.size_toArray] <;> omega)
  rw [slicePick_cut, ← hlen]
  refine ⟨.ref s.heap.objs.size, _, I.laid (t' := s.toks) (o := .lst (cutV xs lo hi)) (fun b ob q => Heap.get?_push_of_some _ q) (Nat.le_refl _) ?_, rfl, q _ (I.hok.fresh (Nat.le_refl _))⟩
  exact ⟨Nat.le_trans (cutV_length xs lo hi) hz, _, 0, (r.drop (HT.sIx xs.length 0 lo)).take (HT.sIx xs.length xs.length hi - HT.sIx xs.length 0 lo), Heap.get?_push_size _ rfl⟩

/-! ### in, not in: flat items -/
def flatV : V → Bool
  | .non => true
  | .bl _ => true
  | .int _ => true
  | .str _ => true
  | _ => false
/-- == of flat values -/
def eqV : V → V → Bool
  | .non, .non => true
  | .bl a, .bl b => a == b
  | .bl a, .int b => (if a then 1 else 0) == b
  | .int a, .bl b => a == (if b then 1 else 0)
  | .int a, .int b => a == b
  | .str a, .str b => a == b
  | _, _ => false
theorem eqAt_V {A : Around} {s : Shared} {y x : V} {u v : Value} (ry : RelV y u) (rx : RelV x v) (fy : flatV y = true) (fx : flatV x = true) : SeqAt.EqAt A s u v (eqV y x) := by
  cases y with
  | non =>
    cases ry
    cases x with
    | non => cases rx; exact SeqAt.EqAt.same _
    | bl b => cases rx; exact SeqAt.EqAt.none_bool b
    | int b => obtain ⟨t, rfl⟩ := rx; exact SeqAt.EqAt.none_int b t
    | str b => obtain ⟨t, rfl⟩ := rx; exact SeqAt.EqAt.none_str b t
    | _ => exact absurd (show false = true from fx) Bool.false_ne_true
  | bl a =>
    cases ry
    cases x with
    | non => cases rx; exact SeqAt.EqAt.bool_none a
    | bl b => cases rx; exact SeqAt.EqAt.bool_bool a b
    | int b => obtain ⟨t, rfl⟩ := rx; exact SeqAt.EqAt.bool_int a b t
    | str b => obtain ⟨t, rfl⟩ := rx; exact SeqAt.EqAt.bool_str a b t
    | _ => exact absurd (show false = true from fx) Bool.false_ne_true
  | int a =>
    obtain ⟨t', rfl⟩ := ry
    cases x with
    | non => cases rx; exact SeqAt.EqAt.int_none a t'
    | bl b => cases rx; exact SeqAt.EqAt.int_bool a t' b
    | int b => obtain ⟨t, rfl⟩ := rx; exact SeqAt.EqAt.int_int a t' b t
    | str b => obtain ⟨t, rfl⟩ := rx; exact SeqAt.EqAt.int_str a t' b t
    | _ => exact absurd (show false = true from fx) Bool.false_ne_true
  | str a =>
    obtain ⟨t', rfl⟩ := ry
    cases x with
    | non => cases rx; exact SeqAt.EqAt.str_none a t'
    | bl b => cases rx; exact SeqAt.EqAt.str_bool a t' b
    | int b => obtain ⟨t, rfl⟩ := rx; exact SeqAt.EqAt.str_int a t' b t
    | str b => obtain ⟨t, rfl⟩ := rx; exact SeqAt.EqAt.str_str a t' b t
    | _ => exact absurd (show false = true from fx) Bool.false_ne_true
  | _ => exact absurd (show false = true from fy) Bool.false_ne_true

/-! ### len, list(x), tuple(x) of any list or tuple that is read -/
theorem call_len_seq : CallR X (.builtin "len") (fun xs H Q => ∃ p ys, xs = [.ref p] ∧ (SqL X.K H p ys ∨ SqT X.K H p ys) ∧ Q (.int ys.length) H) := by
  intro pins s σ H xs us Q I r h
  obtain ⟨p, ys, rfl, hq, q⟩ := h
  obtain ⟨u, rfl, rx⟩ := vals1 r
  cases rx
  have hn := line63
  rcases hq with hq | hq
  · obtain ⟨its, r', pl, hz⟩ := I.list hq
    have hlen := r'.length
    exact Calls.call_len_list pl.isList (by simp only [List.size_toArray] <;> omega) ⟨.int ys.length, H, I.tok _, ⟨s.toks + 1, by rw [List.size_toArray, hlen]⟩, q⟩
  · obtain ⟨its, r', pl, hz⟩ := I.tuple hq
    have hlen := r'.length
    exact len_tuple pl (by simp only [List.size_toArray] <;> omega) ⟨.int ys.length, H, I.tok _, ⟨s.toks + 1, by rw [List.size_toArray, hlen]⟩, q⟩
theorem call_list_of : CallR X (.type "list") (fun xs H Q => ∃ p ys, xs = [.ref p] ∧ (SqL X.K H p ys ∨ SqT X.K H p ys) ∧ ∀ l, H l = none → Q (.ref l) (upd H l (.lst ys))) := by
  intro pins s σ H xs us Q I r h
  obtain ⟨p, ys, rfl, hq, q⟩ := h
  obtain ⟨u, rfl, rx⟩ := vals1 r
  cases rx
  have fin : ∀ (its : List Value), Vals ys its → ys.length ≤ sizeLine → ∀ (h' : Heap) (c' : Nat), (∀ b o', s.heap.get? b = some o' → h'.get? b = some o') →
      h'.get? s.heap.objs.size = some { cls := .type "list", dict := none, data := .seq its.toArray c', slots := #[] } → EP X pins σ Q (.ref s.heap.objs.size) { s with heap := h' } := fun its r' hz h' c' kp e =>
    ⟨.ref s.heap.objs.size, _, I.laid (t' := s.toks) kp (Nat.le_refl _) (show ObjOk X.prog X.w _ h' _ (.lst ys) from ⟨hz, its, c', r', e⟩), rfl, q _ (I.hok.fresh (Nat.le_refl _))⟩
  rcases hq with hq | hq
  · obtain ⟨its, r', pl, hz⟩ := I.list hq
    have hlen := r'.length
    obtain ⟨o, ho, hc, n, hd⟩ := pl.isList
    exact call_list_seq p (.inl rfl) ho hc hd (fun h' c' kp e => fin its r' hz h' c' kp e) (by simp only [List.size_toArray] <;> omega)
  · obtain ⟨its, r', pl, hz⟩ := I.tuple hq
    have hlen := r'.length
    obtain ⟨o, ho, hc, n, hd⟩ := pl
    exact call_list_seq p (.inr rfl) ho hc hd (fun h' c' kp e => fin its r' hz h' c' kp e) (by simp only [List.size_toArray] <;> omega)
theorem call_tuple_of : CallR X (.type "tuple") (fun xs H Q => ∃ p ys, xs = [.ref p] ∧ ((SqL X.K H p ys ∧ ∀ l, H l = none → Q (.ref l) (upd H l (.tup ys))) ∨ (SqT X.K H p ys ∧ Q (.ref p) H))) := by
  intro pins s σ H xs us Q I r h
  obtain ⟨p, ys, rfl, h⟩ := h
  obtain ⟨u, rfl, rx⟩ := vals1 r
  cases rx
  rcases h with ⟨hq, q⟩ | ⟨hq, q⟩
  · obtain ⟨its, r', pl, hz⟩ := I.list hq
    have hlen := r'.length
    refine call_tuple_list pl.isList (fun h' kp => ?_) (by simp only [List.size_toArray] <;> omega)
    have I1 : Inv X pins σ H { s with heap := h' } := I.kept (t' := s.toks) kp
    have I2 : Inv X pins σ (upd H h'.objs.size (.tup ys)) { s with heap := h'.push { cls := .type "tuple", data := .seq its.toArray } } :=
      I1.laid (t' := s.toks) (fun b o e => Heap.get?_push_of_some _ e) (Nat.le_refl _) (show ObjOk X.prog X.w _ _ _ (.tup ys) from ⟨hz, its, r', IsTup.new _ _⟩)
    exact ⟨.ref h'.objs.size, _, I2, rfl, q _ (I1.hok.fresh (Nat.le_refl _))⟩
  · obtain ⟨its, r', pl, hz⟩ := I.tuple hq
    exact call_tuple_same pl ⟨.ref p, H, I, rfl, q⟩

/-! ### the call of a builtin's method: o.m(..) -/
/-- the value is of that builtin type -/
def tyV (K : PySem.W.Frag) (T : String) (x : V) (H : Hp) : Prop := match x with
  | .str _ => T = "str"
  | .int _ => T = "int"
  | .ref p => (T = "list" ∧ ∃ xs, SqL K H p xs) ∨ (T = "tuple" ∧ ∃ o, K.lookup p = some o ∧ o.cls = .type "tuple" ∧ o.dict = none) ∨
      (T = "dict" ∧ ((∃ kvs, H p = some (.dK kvs)) ∨ ∃ kvs, H p = some (.dT kvs))) ∨ (T = "set" ∧ ∃ S n, H p = some (.set S n))
  | _ => False
theorem tyV_is {pins : List (Addr × Obj)} {σ : St} {H : Hp} {s : Shared} {T : String} {x : V} {v : Value} (I : Inv X pins σ H s) (r : RelV x v) (ty : tyV X.K T x H) :
    s.TypeIs v T ∧ ∀ a, v = .ref a → ∃ ob, s.heap.get? a = some ob ∧ ob.dict = none := by
  cases x with
  | str z =>
    obtain ⟨t, rfl⟩ := r
    cases (show T = "str" from ty)
    exact ⟨typeIs_str s z t, fun _ e => nomatch e⟩
  | int i =>
    obtain ⟨t, rfl⟩ := r
    cases (show T = "int" from ty)
    exact ⟨typeIs_int s i t, fun _ e => nomatch e⟩
  | ref p =>
    cases r
    rcases ty with ⟨rfl, xs, hq⟩ | ⟨rfl, o, hk, hc, hd⟩ | ⟨rfl, hk⟩ | ⟨rfl, S, n, hk⟩
    · obtain ⟨its, _, pl, _⟩ := I.list hq
      refine ⟨pl.isList.typeIs, fun a e => ?_⟩
      cases e
      obtain ⟨o, n, e, c, hd, _⟩ := pl
      exact ⟨o, e, hd⟩
    · refine ⟨⟨o, I.kIn p o hk, hc⟩, fun a e => ?_⟩
      cases e
      exact ⟨o, I.kIn _ o hk, hd⟩
    · have z : ∃ o, s.heap.get? p = some o ∧ o.ExactDict := by
        rcases hk with ⟨kvs, hk⟩ | ⟨kvs, hk⟩
        · obtain ⟨_, _, _, _, o, _, _, e, ex, _⟩ := I.hok p _ hk
          exact ⟨o, e, ex⟩
        · obtain ⟨_, _, _, _, o, _, _, e, ex, _⟩ := I.hok p _ hk
          exact ⟨o, e, ex⟩
      obtain ⟨o, e, ex⟩ := z
      refine ⟨⟨o, e, ex.1⟩, fun a e2 => ?_⟩
      cases e2
      exact ⟨o, e, ex.2.1⟩
    · obtain ⟨o, _, _, _, e, ex, _⟩ := I.hok p _ hk
      refine ⟨⟨o, e, ex.1⟩, fun a e2 => ?_⟩
      cases e2
      exact ⟨o, e, ex.2.1⟩
  | _ => exact False.elim ty
def tBM0 (K : PySem.W.Frag) (T : String) (r : V → List V → Hp → VK → Prop) (to : TE) : TE := fun σ H Q => to σ H fun x H1 => tyV K T x H1 ∧ r x [] H1 Q
def tBM (K : PySem.W.Frag) (T : String) (r : V → List V → Hp → VK → Prop) (to : TE) (t : TA) : TE := fun σ H Q => to σ H fun x H1 => tyV K T x H1 ∧ t σ H1 fun xs H2 => r x xs H2 Q
variable {o e : Expr} {es : List Expr} {to : TE} {t : TA} {name : Str} {apos cpos : Pos} {T id : String} {r : V → List V → Hp → VK → Prop}
theorem pe_bm0 (pa : PlainAttrs T) (slot : Slot T name id) (hty : typeOf (.builtin id) = pure (.type "method_descriptor")) (hm : MtR X id r) (ho : PE X o to)
    (hbase : attributeBase o name X.env (eval o X.env) = eval o X.env := by rfl) (hline : (apos.endLine == cpos.line) = true := by rfl) : PE X (.Call (.Attribute o name apos) [] [] cpos) (tBM0 X.K T r to) := by
  intro pins s σ H Q I h
  refine wpAny_Call_method0_late hbase hline (thn (ho pins s σ H _ I h) fun v s1 ⟨x, H1, I1, r1, ty, q1⟩ => ?_)
  obtain ⟨h1, h2⟩ := tyV_is I1 r1 ty
  exact ⟨T, id, pa, slot, hty, h1, h2, Calls.callWith_builtin rfl (PySem.evalArgs_none (hm pins s1 σ H1 x [] v [] Q I1 r1 .nil q1))⟩
theorem pe_bm (pa : PlainAttrs T) (slot : Slot T name id) (hty : typeOf (.builtin id) = pure (.type "method_descriptor")) (hm : MtR X id r) (ho : PE X o to) (ha : PA X (e :: es) t)
    (hbase : attributeBase o name X.env (eval o X.env) = eval o X.env := by rfl)
    (hfew : ((backTo cpos (starEach (e :: es) X.env)).all (fun x => !x.1) && (backToKw cpos (keywordEach [] X.env)).all (fun x => x.1.isSome)
      && decide ((e :: es).length + ([] : List Keyword).length + (if ([] : List Keyword).isEmpty then 0 else 1) < 30)) = true := by rfl)
    (hline : (apos.endLine == cpos.line) = true := by rfl) (hs : starEach (e :: es) X.env = (false, eval e X.env) :: starEach es X.env := by rfl) (hplain : (backTo cpos (starEach es X.env)).any (·.1) = false := by rfl) :
    PE X (.Call (.Attribute o name apos) (e :: es) [] cpos) (tBM X.K T r to t) := by
  intro pins s σ H Q I h
  refine wpAny_Call_method_late hbase hfew hline rfl (thn (ho pins s σ H _ I h) fun v s1 ⟨x, H1, I1, r1, ty, q1⟩ => ?_)
  obtain ⟨h1, h2⟩ := tyV_is I1 r1 ty
  refine ⟨T, id, pa, slot, hty, h1, h2, ?_⟩
  have hA := ha cpos pins s1 σ H1 _ I1 q1
  rw [hs] at hA ⊢
  refine Calls.callWith_builtin (by show (false || (backTo cpos (starEach es X.env)).any (·.1)) = false; rw [hplain] <;> rfl) (Calls.evalArgs_plain ?_)
  exact thn hA fun us s2 ⟨vs, H2, I2, r2, q2⟩ => hm pins s2 σ H2 x vs v us Q I2 r1 r2 q2
/- xs.append(e), list.index on a module's tuple .. are MtR facts of 06m -/
end
end L2

namespace L2
open PySem PySem.Spec PyProof.Rows

def MtM (X : Cx) (id : String) (r : V → List V → Hp → VK → Prop) : Prop :=
  ∀ (pins : List (Addr × Obj)) (s : Shared) (σ : St) (H : Hp) (x : V) (xs : List V) (v : Value) (us : List Value) (Q : VK), Inv X pins σ H s → RelV x v → Vals xs us → r x xs H Q →
    wpAny (model X.prog X.w) X.A (call (.builtin id) (v :: us)) (EP X pins σ Q) X.xe s

/-! ### lists of values -/
theorem Vals.one : ∀ {x : V} {us : List Value}, Vals [x] us → ∃ u, us = [u] ∧ RelV x u
  | _, _, .cons r .nil => ⟨_, rfl, r⟩
theorem Vals.zero : ∀ {us : List Value}, Vals [] us → us = []
  | _, .nil => rfl
theorem Vals.dropLast {xs : List V} {us : List Value} (h : Vals xs us) : Vals xs.dropLast us.dropLast := by
  induction h with
  | nil => exact .nil
  | cons r t ih =>
    cases t with
    | nil => exact .nil
    | cons q t' => exact .cons r ih
theorem Vals.reverse {xs : List V} {us : List Value} (h : Vals xs us) : Vals xs.reverse us.reverse := by
  induction h with
  | nil => exact .nil
  | cons r t ih => rw [List.reverse_cons, List.reverse_cons]; exact Vals.append ih (.cons r .nil)
theorem erase_last {α : Type} (l : List α) : l.eraseIdx (l.length - 1) = l.dropLast := by
  induction l with
  | nil => rfl
  | cons a r ih =>
    cases r with
    | nil => rfl
    | cons b r =>
      have e : (a :: b :: r).length - 1 = ((b :: r).length - 1) + 1 := by
        have h1 : (a :: b :: r).length = r.length + 2 := rfl
        have h2 : (b :: r).length = r.length + 1 := rfl
        omega
      rw [e, List.eraseIdx_cons_succ, ih]
      all_goals rfl

section
variable {X : Cx} {pins : List (Addr × Obj)} {σ : St} {H : Hp} {s : Shared} {l b : Addr} {xs ys zs : List V}

/-! ### the two steps: a tracked list is rewritten, a new list is laid -/
theorem Inv.lset {its its' : List Value} {n : Nat} {f : Array Value → Array Value} {t' : Nat} (I : Inv X pins σ H s) (hH : H l = some (.lst xs))
    (e : s.heap.get? l = some { cls := .type "list", data := .seq its.toArray n }) (hf : f its.toArray = its'.toArray) (hv : Vals ys its') (hz : ys.length ≤ sizeLine) :
    Inv X pins σ (upd H l (.lst ys)) { s with heap := s.heap.update l (Obj.mapSeq f), toks := t' } := by
  have q := PySem.IsL.update e f
  rw [hf] at q
  refine I.write (x := l) (e := l) (by rw [hH]; exact trivial) (.inl rfl) (fun b' u hb hu => (Heap.get?_update_other s.heap (Obj.mapSeq f) (Ne.symm hb)).trans hu) ⟨_, q⟩ ?_
  exact ⟨hz, its', _, hv, q⟩
theorem Inv.lnew {its : List Value} {t' : Nat} (I : Inv X pins σ H s) (hv : Vals ys its) (hz : ys.length ≤ sizeLine) :
    Inv X pins σ (upd H s.heap.objs.size (.lst ys)) { s with heap := s.heap.push { cls := .type "list", data := .seq its.toArray }, toks := t' } :=
  I.laid (fun _ _ q => Heap.get?_push_of_some _ q) (Nat.le_refl _) ⟨hz, its, 0, hv, Heap.get?_push_size _ rfl⟩
theorem Inv.fresh (I : Inv X pins σ H s) : H s.heap.objs.size = none := I.hok.fresh (Nat.le_refl _)
theorem Inv.lstM (I : Inv X pins σ H s) (hH : H l = some (.lst xs)) : xs.length ≤ sizeLine ∧ ∃ (its : List Value) (n : Nat), Vals xs its ∧ xs.length = its.length ∧ s.heap.get? l = some { cls := .type "list", data := .seq its.toArray n } := by
  obtain ⟨z, its, n, r, e⟩ := I.hok l _ hH
  exact ⟨z, its, n, r, r.length, e⟩

theorem notLongL {n : Nat} (h : n ≤ sizeLine) : Builtin.List.listTooLong n = false := by
  unfold Builtin.List.listTooLong
  exact decide_eq_false (by omega)
end

section
variable {X : Cx}

/-! ### methods -/
def rAppend : V → List V → Hp → VK → Prop := fun x vs H Q => ∃ l xs y, x = .ref l ∧ vs = [y] ∧ H l = some (.lst xs) ∧ xs.length < sizeLine ∧ Q .non (upd H l (.lst (xs ++ [y])))
theorem mt_append : MtM X "list.append" rAppend := by
  intro pins s σ H x vs v us Q I rx rv h
  obtain ⟨l, xs, y, rfl, rfl, hH, hz, q⟩ := h
  cases rx
  obtain ⟨u, rfl, ru⟩ := rv.one
  obtain ⟨z, its, n, r, hl, e⟩ := I.lstM hH
  refine call_meets F.slot_list_append ⟨_, e, rfl⟩ F.entry_list_append (F.args_list_append_2 _ _) (PySem.list_append l its.toArray n u (by rw [List.size_toArray]; omega)) ⟨e, ?_⟩
  refine ⟨.non, _, I.lset (its' := its ++ [u]) hH e (by simp) (r.append (.cons ru .nil)) ?_, rfl, q⟩
  rw [List.length_append, List.length_singleton]
  omega

def rExtend : V → List V → Hp → VK → Prop := fun x vs H Q => ∃ l b xs zs, x = .ref l ∧ vs = [.ref b] ∧ H l = some (.lst xs) ∧ H b = some (.lst zs) ∧ xs.length + zs.length ≤ sizeLine ∧ Q .non (upd H l (.lst (xs ++ zs)))
theorem mt_extend : MtM X "list.extend" rExtend := by
  intro pins s σ H x vs v us Q I rx rv h
  obtain ⟨l, b, xs, zs, rfl, rfl, hH, hB, hz, q⟩ := h
  cases rx
  obtain ⟨u, rfl, ru⟩ := rv.one
  cases ru
  obtain ⟨z, its, n, r, hl, e⟩ := I.lstM hH
  obtain ⟨z2, its2, n2, r2, hl2, e2⟩ := I.lstM hB
  have hsz : its.toArray.size + its2.toArray.size ≤ sizeLine := by rw [List.size_toArray, List.size_toArray]; omega
  have hlong : ¬ (!its.toArray.isEmpty && Builtin.List.listTooLong (its.toArray.size + its2.toArray.size)) = true := by
    rw [notLongL hsz, Bool.and_false]
    exact Bool.false_ne_true
  refine call_meets F.slot_list_extend ⟨_, e, rfl⟩ F.entry_list_extend (F.args_list_extend_2 _ _)
    (AutoSeq1.list_extend_list_list_0 l its.toArray n b its2.toArray n2 hlong (by rw [List.size_toArray]; omega) (by omega)) ⟨e, e2, ?_⟩
  refine ⟨.non, _, I.lset (its' := its ++ its2) hH e (by simp) (r.append r2) ?_, rfl, q⟩
  rw [List.length_append]
  omega

def rPop : V → List V → Hp → VK → Prop := fun x vs H Q => ∃ l xs y, x = .ref l ∧ vs = [] ∧ H l = some (.lst xs) ∧ xs[xs.length - 1]? = some y ∧ Q y (upd H l (.lst xs.dropLast))
theorem mt_pop : MtM X "list.pop" rPop := by
  intro pins s σ H x vs v us Q I rx rv h
  obtain ⟨l, xs, y, rfl, rfl, hH, hy, q⟩ := h
  cases rx
  have hus := rv.zero
  subst hus
  obtain ⟨z, its, n, r, hl, e⟩ := I.lstM hH
  obtain ⟨u, hu, ru⟩ := r.get hy
  have hy' : its.toArray[its.toArray.size - 1]? = some u := by
    show its.toArray[its.length - 1]? = some u
    rw [← Array.getElem?_toList, ← hl]
    exact hu
  refine call_meets F.slot_list_pop ⟨_, e, rfl⟩ F.entry_list_pop (F.args_list_pop_1 _) (MeetsSeq.list_pop_last l its.toArray n u hy' (by rw [List.size_toArray]; omega)) ⟨e, ?_⟩
  refine ⟨y, _, I.lset (its' := its.dropLast) hH e ?_ r.dropLast ?_, ru, q⟩
  · show its.toArray.eraseIdxIfInBounds (its.toArray.size - 1) = its.dropLast.toArray
    rw [List.size_toArray, List.eraseIdxIfInBounds_toArray, erase_last]
  · rw [List.length_dropLast]
    omega




/-! ### list + list, list += list, list * int -/
def rCat : R2 := fun x y H Q => ∃ l b xs zs, x = .ref l ∧ y = .ref b ∧ H l = some (.lst xs) ∧ H b = some (.lst zs) ∧ xs.length + zs.length ≤ sizeLine ∧ ∀ p, H p = none → Q (.ref p) (upd H p (.lst (xs ++ zs)))
theorem op_cat : OpR X (binaryOp .Add) rCat := by
  intro pins s σ H x y v u Q I rx ry h
  obtain ⟨l, b, xs, zs, rfl, rfl, hH, hB, hz, q⟩ := h
  cases rx
  cases ry
  obtain ⟨z, its, n, r, hl, e⟩ := I.lstM hH
  obtain ⟨z2, its2, n2, r2, hl2, e2⟩ := I.lstM hB
  refine PySem.P.add_list e e2 ?_ (by rw [List.size_toArray, List.size_toArray]; omega)
  have ea : its.toArray ++ its2.toArray = (its ++ its2).toArray := by simp
  rw [ea]
  exact ⟨.ref _, _, I.lnew (t' := s.toks) (r.append r2) (by rw [List.length_append]; omega), rfl, q _ I.fresh⟩

/-! ### del xs[i] -/
end

/-! ### xs[a:b] = ys -/
section
variable {prog : Program} {w : World} {A : Around} {E : Value → Shared → Prop} {s : Shared}
end

section
variable {X : Cx}
end
end L2

namespace L2
open PySem PySem.Spec PyProof.Rows

/-! ### lists of pairs as tables -/
section
variable {κ : Type} [DecidableEq κ]
def valV (kvs : List (κ × V)) (k : κ) : Option V := (kvs.find? fun kv => decide (kv.1 = k)).map (·.2)
/-- in its place, or at the end -/
def putK (kvs : List (κ × V)) (k : κ) (v : V) : List (κ × V) :=
  if (kvs.any fun kv => decide (kv.1 = k)) = true then kvs.map (fun kv => if kv.1 = k then (kv.1, v) else kv) else kvs ++ [(k, v)]

theorem valV_pos {p : κ × V} {r : List (κ × V)} {k : κ} (e : p.1 = k) : valV (p :: r) k = some p.2 := by simp [valV, List.find?_cons, e]
theorem valV_neg {p : κ × V} {r : List (κ × V)} {k : κ} (e : ¬ p.1 = k) : valV (p :: r) k = valV r k := by simp [valV, List.find?_cons, e]
theorem valV_any (k : κ) : ∀ kvs : List (κ × V), (kvs.any fun kv => decide (kv.1 = k)) = (valV kvs k).isSome
  | [] => rfl
  | p :: r => by
    rw [List.any_cons]
    by_cases e : p.1 = k
    · simp only [valV_pos e, decide_eq_true e, Bool.true_or, Option.isSome_some]
    · rw [valV_neg e, decide_eq_false e, Bool.false_or]; exact valV_any k r
theorem length_putK (kvs : List (κ × V)) (k : κ) (v : V) : (putK kvs k v).length ≤ kvs.length + 1 := by
  unfold putK
  split
  · rw [List.length_map]; omega
  · rw [List.length_append, List.length_cons, List.length_nil]; omega

theorem RelO.isSome_eq {o : Option V} {u : Option Value} (r : RelO o u) : o.isSome = u.isSome := by
  cases o with
  | none => cases u with
    | none => rfl
    | some _ => exact (show False from r).elim
  | some _ => cases u with
    | none => exact (show False from r).elim
    | some _ => rfl

/-- raw tables of the same keys -/
theorem KV.val {kvs : List (κ × V)} {vs : List (κ × Value)} (r : KV kvs vs) (k : κ) : RelO (valV kvs k) (valueAt vs k) := by
  unfold KV at r
  induction r with
  | nil => exact True.intro
  | @cons p q ps qs h t ih =>
    obtain ⟨h1, h2⟩ := h
    by_cases e : p.1 = k
    · have e' : q.1 = k := h1.symm.trans e
      have b : valueAt (q :: qs) k = some q.2 := by simp [valueAt, List.find?_cons, e']
      rw [valV_pos e, b]; exact h2
    · have e' : ¬ q.1 = k := fun z => e (h1.trans z)
      have b : valueAt (q :: qs) k = valueAt qs k := by simp [valueAt, List.find?_cons, e']
      rw [valV_neg e, b]; exact ih
theorem KV.any {kvs : List (κ × V)} {vs : List (κ × Value)} (r : KV kvs vs) (k : κ) : (kvs.any fun kv => decide (kv.1 = k)) = vs.any fun kv => decide (kv.1 = k) := by
  unfold KV at r
  induction r with
  | nil => rfl
  | cons h t ih => rw [List.any_cons, List.any_cons, ih, h.1]
theorem KV.repl {kvs : List (κ × V)} {vs : List (κ × Value)} (r : KV kvs vs) (k : κ) {y : V} {u : Value} (ry : RelV y u) :
    KV (kvs.map fun kv => if kv.1 = k then (kv.1, y) else kv) (vs.map fun kv => if kv.1 = k then (kv.1, u) else kv) := by
  unfold KV at r ⊢
  induction r with
  | nil => exact .nil
  | @cons p q ps qs h t ih =>
    rw [List.map_cons, List.map_cons]
    refine .cons ?_ ih
    obtain ⟨h1, h2⟩ := h
    by_cases e : p.1 = k
    · rw [if_pos e, if_pos (h1.symm.trans e)]; exact ⟨h1, ry⟩
    · rw [if_neg e, if_neg (fun z => e (h1.trans z))]; exact ⟨h1, h2⟩
theorem KV.put {kvs : List (κ × V)} {vs : List (κ × Value)} (r : KV kvs vs) (k : κ) {y : V} {u : Value} (ry : RelV y u) : KV (putK kvs k y) (stored vs k u) := by
  unfold putK stored
  rw [r.any k]
  by_cases e : (vs.any fun kv => decide (kv.1 = k)) = true
  · rw [if_pos e, if_pos e]; exact r.repl k ry
  · rw [if_neg e, if_neg e]; exact Paired.snoc r ⟨rfl, ry⟩
theorem KV.length {kvs : List (κ × V)} {vs : List (κ × Value)} (r : KV kvs vs) : kvs.length = vs.length := Paired.length r
end


/-! ### a tracked dict, its keys ints and texts or tuples of these -/
theorem kV_is {P : Program} {w : World} {k : Key} {u : Value} (r : RelV (kV k) u) : (mixKind P w).is k u = true := by
  cases k with
  | inl i => obtain ⟨t, e⟩ := (show ∃ t, u = Value.int i t from r); subst e; exact mixKind_int P w i t
  | inr x => obtain ⟨t, e⟩ := (show ∃ t, u = Value.str x t from r); subst e; exact mixKind_str P w x t
theorem items_are {P : Program} {w : World} : ∀ {ks : List Key} {us : List Value}, Vals (ks.map kV) us → ItemsAre (mixKind P w) ks us
  | [], _, r => by rw [List.map_nil] at r; cases r; exact .nil
  | k :: ks, _, r => by
    rw [List.map_cons] at r
    cases r with
    | cons h t => exact .cons (kV_is h) (items_are t)

/-- raw entries of a dict with tuple keys -/
abbrev KT (H : Hp) : List (List Key × V) → List (List Key × Addr × Value) → Prop := Paired fun p q => p.1 = q.1 ∧ H q.2.1 = some (.tup (p.1.map kV)) ∧ RelV p.2 q.2.2
theorem KT.val {H : Hp} {kvs : List (List Key × V)} {xs : List (List Key × Addr × Value)} (r : KT H kvs xs) (k : List Key) : RelO (valV kvs k) ((atKey xs k).map (·.2)) := by
  induction r with
  | nil => exact True.intro
  | @cons p q ps qs h t ih =>
    obtain ⟨h1, _, h2⟩ := h
    by_cases e : p.1 = k
    · have e' : q.1 = k := h1.symm.trans e
      have b : atKey (q :: qs) k = some q.2 := by simp [atKey, List.find?_cons, e']
      rw [valV_pos e, b]; exact h2
    · have e' : ¬ q.1 = k := fun z => e (h1.trans z)
      have b : atKey (q :: qs) k = atKey qs k := by simp [atKey, List.find?_cons, e']
      rw [valV_neg e, b]; exact ih
theorem KT.repl {H : Hp} {kvs : List (List Key × V)} {xs : List (List Key × Addr × Value)} (r : KT H kvs xs) (k : List Key) {y : V} {u : Value} (ry : RelV y u) :
    KT H (kvs.map fun kv => if kv.1 = k then (kv.1, y) else kv) (xs.map (putAt k u)) := by
  induction r with
  | nil => exact .nil
  | @cons p q ps qs h t ih =>
    rw [List.map_cons, List.map_cons]
    refine .cons ?_ ih
    obtain ⟨h1, h2, h3⟩ := h
    unfold putAt
    by_cases e : p.1 = k
    · rw [if_pos e, if_pos (h1.symm.trans e)]; exact ⟨h1, h2, ry⟩
    · rw [if_neg e, if_neg (fun z => e (h1.trans z))]; exact ⟨h1, h2, h3⟩
theorem KT.put {H : Hp} {kvs : List (List Key × V)} {xs : List (List Key × Addr × Value)} (r : KT H kvs xs) (k : List Key) {b : Addr} {y : V} {u : Value} (hb : H b = some (.tup (k.map kV))) (ry : RelV y u) :
    KT H (putK kvs k y) (storedH xs k b u) := by
  have e : (kvs.any fun kv => decide (kv.1 = k)) = (atKey xs k).isSome := by
    rw [valV_any, (r.val k).isSome_eq, Option.isSome_map]
  unfold putK storedH
  rw [e]
  by_cases q : (atKey xs k).isSome = true
  · rw [if_pos q, if_pos q]; exact r.repl k ry
  · rw [if_neg q, if_neg q]; exact Paired.snoc r ⟨rfl, hb, ry⟩
theorem KT.keeps {H H' : Hp} {kvs : List (List Key × V)} {xs : List (List Key × Addr × Value)} (r : KT H kvs xs) (ht : ∀ b ys, H b = some (.tup ys) → H' b = some (.tup ys)) : KT H' kvs xs :=
  Paired.mapP r fun _ _ z => ⟨z.1, ht _ _ z.2.1, z.2.2⟩

section
variable {P : Program} {w : World} {H : Hp} {h : Heap} {a : Addr}
theorem rd_of {u : HO} (ok : HOk P w H h) (e : Rd H a u) : ObjOk P w H h a u := e.ok ok
theorem dk_rd {kvs : List (Key × V)} (ok : HOk P w H h) (e : Rd H a (.dK kvs)) : kvs.length ≤ sizeLine ∧ (a == sysModules) = false ∧ ∃ vs, KV kvs vs ∧ h.DictOf (mixKind P w) a vs :=
  show ObjOk P w H h a (.dK kvs) from rd_of ok e
theorem dk_of {kvs : List (Key × V)} (ok : HOk P w H h) (e : H a = some (.dK kvs)) : kvs.length ≤ sizeLine ∧ (a == sysModules) = false ∧ ∃ vs, KV kvs vs ∧ h.DictOf (mixKind P w) a vs := dk_rd ok (.inl e)
/-- a tracked tuple of ints and texts is a key -/
theorem key_of {ks : List Key} (ok : HOk P w H h) (e : H a = some (.tup (ks.map kV))) : (tupleKind (mixKind P w)).is h ks a := by
  obtain ⟨_, its, r, o, h1, h2, n, h3⟩ := (show ObjOk P w H h a (.tup (ks.map kV)) from ok a _ e)
  exact ⟨o, its.toArray, n, h1, h2, h3, by simpa using items_are r⟩
theorem dt_rd {kvs : List (List Key × V)} (ok : HOk P w H h) (e : Rd H a (.dT kvs)) : kvs.length ≤ sizeLine ∧ (a == sysModules) = false ∧
    ∃ xs, KT H kvs xs ∧ h.DictOfH (tupleKind (mixKind P w)) a xs := by
  obtain ⟨z, y, xs, r, o, es, ep, h1, h2, h3, h4, h5⟩ := (show ObjOk P w H h a (.dT kvs) from rd_of ok e)
  refine ⟨z, y, xs, r, o, es, ep, h1, h2, h3, h4, fun x hx => ?_, h5⟩
  have all : ∀ {l : List (List Key × V)} {m : List (List Key × Addr × Value)}, KT H l m → ∀ x ∈ m, (tupleKind (mixKind P w)).is h x.1 x.2.1 := by
    intro l m q
    induction q with
    | nil => intro x hx; exact nomatch hx
    | @cons p q ps qs hq t ih =>
      intro x hx
      rcases List.mem_cons.mp hx with e | hx
      · subst e
        exact key_of ok (by rw [← hq.1]; exact hq.2.1)
      · exact ih x hx
  exact all r x hx
theorem dt_of {kvs : List (List Key × V)} (ok : HOk P w H h) (e : H a = some (.dT kvs)) : kvs.length ≤ sizeLine ∧ (a == sysModules) = false ∧
    ∃ xs, KT H kvs xs ∧ h.DictOfH (tupleKind (mixKind P w)) a xs := dt_rd ok (.inl e)
end

/-- what the dict at a holds at the key y -/
def DGet (H : Hp) (a : Addr) (y : V) (r : Option V) : Prop :=
  (∃ kvs k, Rd H a (.dK kvs) ∧ y = kV k ∧ r = valV kvs k) ∨ ∃ kvs k b, Rd H a (.dT kvs) ∧ y = .ref b ∧ H b = some (.tup (k.map kV)) ∧ r = valV kvs k
/-- the heap behind a[y] = v -/
def DPut (H : Hp) (a : Addr) (y v : V) (H' : Hp) : Prop :=
  (∃ kvs k, H a = some (.dK kvs) ∧ y = kV k ∧ kvs.length < sizeLine ∧ H' = upd H a (.dK (putK kvs k v))) ∨
  ∃ kvs k b, H a = some (.dT kvs) ∧ y = .ref b ∧ H b = some (.tup (k.map kV)) ∧ kvs.length < sizeLine ∧ H' = upd H a (.dT (putK kvs k v))
theorem DGet.k {H : Hp} {a : Addr} {kvs : List (Key × V)} {k : Key} (e : H a = some (.dK kvs)) : DGet H a (kV k) (valV kvs k) := .inl ⟨kvs, k, .inl e, rfl, rfl⟩
theorem DPut.k {H : Hp} {a : Addr} {kvs : List (Key × V)} {k : Key} {v : V} (e : H a = some (.dK kvs)) (hl : kvs.length < sizeLine) : DPut H a (kV k) v (upd H a (.dK (putK kvs k v))) := .inl ⟨kvs, k, e, rfl, hl, rfl⟩


section
variable {X : Cx} {pins : List (Addr × Obj)} {σ : St} {H : Hp} {s : Shared} {a : Addr} {y v : V} {u r : Value} {o : Option V} {A : Around} {E : Value → Shared → Prop}

theorem Inv.big (I : Inv X pins σ H s) : sysModules < s.heap.objs.size := by
  have h : mainGlobals < s.heap.objs.size := (I.mod.glob.keeps I.bk).lt
  exact Nat.lt_trans (by decide) h

/-- d[y], there -/
theorem d_getItem {Q : Value → Shared → Prop} (hu : A.units + 1 < cLine) (I : Inv X pins σ H s) (g : DGet H a y (some v)) (ry : RelV y u) (h : ∀ w' s', Inv X pins σ H s' → RelV v w' → Q w' s') :
    wpAny (model X.prog X.w) A (getItem (.ref a) u) Q E s := by
  rcases g with ⟨kvs, k, e, ey, l⟩ | ⟨kvs, k, b, e, ey, eb, l⟩
  · subst ey
    obtain ⟨z, hd, vs, rel, dd⟩ := dk_rd I.hok e
    obtain ⟨w', hw, rw'⟩ := RelO.some_of (v := v) (o := valueAt vs k) (by rw [l]; exact rel.val k)
    exact wpAny_getItem_of (kV_is ry) dd.mapOf hw (h w' _ (I.tok _) rw')
  · subst ey
    cases (show u = Value.ref b from ry)
    obtain ⟨z, hd, xs, rel, dd⟩ := dt_rd I.hok e
    obtain ⟨w', hw, rw'⟩ := RelO.some_of (v := v) (o := (atKey xs k).map (·.2)) (by rw [l]; exact rel.val k)
    obtain ⟨p, hp, hp2⟩ := Option.map_eq_some_iff.mp hw
    refine wpAny_getItem_heap (tupleKind_room_in1 hu) (key_of I.hok eb) dd hp ?_
    rw [hp2]
    exact h w' _ (I.tok _) rw'
/-- a dict's object is replaced -/
theorem d_write {h' : Heap} {t' : Nat} {ob : HO} (I : Inv X pins σ H s) (mu : Mut (H a)) (hs : Heap.SameBut a s.heap h') (he : ∃ q, h'.get? a = some q) (new : ObjOk X.prog X.w (upd H a ob) h' a ob) :
    Inv X pins σ (upd H a ob) { s with heap := h', toks := t' } :=
  I.write (x := a) (e := a) mu (.inl rfl) (fun b q hb z => (hs.2 b hb).trans z) he new
theorem dk_new {P : Program} {w : World} {H' : Hp} {h' : Heap} {kvs : List (Key × V)} {vs : List (Key × Value)} (z : kvs.length ≤ sizeLine) (hd : (a == sysModules) = false) (rel : KV kvs vs) (dd : h'.DictOf (mixKind P w) a vs) :
    ObjOk P w H' h' a (.dK kvs) := ⟨z, hd, vs, rel, dd⟩
/-- d[y] = v -/
theorem d_setItem {H' : Hp} {Q : Unit → Shared → Prop} (hu : A.units + 1 < cLine) (I : Inv X pins σ H s) (g : DPut H a y v H') (ry : RelV y u) (rv : RelV v r) (h : ∀ s', Inv X pins σ H' s' → Q () s') :
    wpAny (model X.prog X.w) A (setItem (.ref a) u r) Q E s := by
  rcases g with ⟨kvs, k, e, ey, l, eH⟩ | ⟨kvs, k, b, e, ey, eb, l, eH⟩
  · subst ey eH
    obtain ⟨z, hd, vs, rel, dd⟩ := dk_of I.hok e
    have hz : vs.length ≤ sizeLine := by rw [← rel.length]; exact z
    have hl : (putK kvs k v).length ≤ sizeLine := by have := length_putK kvs k v; omega
    refine wpAny_setItem_pairs (hsz := hz) (kV_is ry) dd fun h' dd' hs => h _ ?_
    have he : ∃ q, h'.get? a = some q := let ⟨q, _, _, hq, _⟩ := dd'; ⟨q, hq⟩
    exact d_write I (by rw [e]; exact True.intro) hs he (dk_new hl hd (rel.put k rv) dd')
  · subst ey eH
    cases (show u = Value.ref b from ry)
    obtain ⟨z, hd, xs, rel, dd⟩ := dt_of I.hok e
    have hz : xs.length ≤ sizeLine := by rw [← Paired.length rel]; exact z
    have hl : (putK kvs k v).length ≤ sizeLine := by have := length_putK kvs k v; omega
    refine wpAny_setItem_heap (hsz := hz) (tupleKind_room_in1 hu) (key_of I.hok eb) dd fun h' dd' hs => h _ ?_
    obtain ⟨q, es, ep, hq, h2, h3, h4, _, h5⟩ := dd'
    refine d_write I (by rw [e]; exact True.intro) hs ⟨q, hq⟩ ⟨hl, hd, _, (rel.put k eb rv).keeps fun c ys ec => ?_, q, es, ep, hq, h2, h3, h4, h5⟩
    rw [upd_ne (ne_of ec e (fun z => nomatch z))]
    exact ec
end

section
variable {X : Cx} {pins : List (Addr × Obj)} {σ : St} {H : Hp} {s : Shared} {a : Addr} {kvs : List (Key × V)} {k : Key} {u : Value} {A : Around} {E : Value → Shared → Prop}
end


/-! ### readings and rules -/
/-- the element of a subscription, not a slice -/
def NoSl (i : Expr) : Prop := ∀ ov iv, subscripted i false ov iv = operate [ov, iv] (getItem ov iv)
theorem subD_of {prog : Program} {w : World} {A : Around} {E : Value → Shared → Prop} {s : Shared} {env : Env} {value slice : Expr} {pos : Pos} {T id : String} {Q : Value → Shared → Prop}
    (hl : typeLookup (.type T) "__getitem__" = pure (some (.builtin id))) (hs : NoSl slice)
    (h : wpAny (model prog w) A (eval value env) (fun o s₁ => wpAny (model prog w) A (eval slice env) (fun i s₂ => s₂.TypeIs o T ∧ wpAny (model prog w) A (getItem o i) Q E s₂) E s₁) E s) :
    wpAny (model prog w) A (eval (.Subscript value slice pos) env) Q E s := by
  refine Subscript_ (wpAny_mono h (fun o s₁ h₁ => wpAny_mono h₁ (fun i s₂ h₂ => ?_) fun _ _ x => x) fun _ _ x => x)
  obtain ⟨hT, h₂⟩ := h₂
  unfold subscriptTail
  refine wpAny_bind ?_
  rw [getitemInPython_of_ne hT.not_modules]
  refine wpAny_bind (wpAny_specialOf hT hl ?_)
  have fin : wpAny (model prog w) A (subscripted slice false o i) (fun r s₃ => wpAny (model prog w) A (letTemporaryGo value o r >>= fun _ => pure r) Q E s₃) E s₂ := by
    rw [hs o i]
    exact wpAny_operating (wpAny_mono h₂ (fun r s₃ h₃ => wpAny_bind (wpAny_letTemporaryGo (wpAny_pure h₃))) fun _ _ x => x)
  first
    | exact wpAny_pure (wpAny_bind fin)
    | exact wpAny_bind (wpAny_pure (wpAny_bind fin))
    | exact wpAny_bind fin

theorem dict_typeIs {X : Cx} {pins : List (Addr × Obj)} {σ : St} {H : Hp} {s : Shared} {a : Addr} {y : V} {o : Option V} (I : Inv X pins σ H s) (g : DGet H a y o) : s.TypeIs (.ref a) "dict" := by
  rcases g with ⟨kvs, k, e, _, _⟩ | ⟨kvs, k, b, e, _, _, _⟩
  · obtain ⟨_, _, vs, _, dd⟩ := dk_rd I.hok e
    exact dd.typeIs
  · obtain ⟨_, _, xs, _, dd⟩ := dt_rd I.hok e
    exact dd.typeIs

/-- d[y] -/
def tDGet (td ty : TE) : TE := fun σ H Q => td σ H fun x H1 => ty σ H1 fun y H2 => ∃ a v, x = .ref a ∧ DGet H2 a y (some v) ∧ Q v H2
/-- d[y] = v -/
def sDPut (td ty tv : TE) : TS := fun D σ H => tv σ H fun v H1 => td σ H1 fun x H2 => ty σ H2 fun y H3 => ∃ a H4, x = .ref a ∧ DPut H3 a y v H4 ∧ D.nx σ H4

section
variable {X : Cx} {o i e value : Expr} {pos pos' tpos : Pos} {td ty tv : TE}
theorem pe_dget (hu : X.A.units + 1 < cLine) (ho : PE X o td) (hi : PE X i ty) (hs : NoSl i) : PE X (.Subscript o i pos) (tDGet td ty) := by
  intro pins s σ H Q I h
  refine subD_of PySem.F.slot_dict_getitem.lookup hs (thn (ho pins s σ H _ I h) fun u s1 ⟨x, H1, I1, rx, q1⟩ => thn (hi pins s1 σ H1 _ I1 q1) fun iv s2 ⟨y, H2, I2, ry, a, v, ex, g, q2⟩ => ?_)
  subst ex
  obtain rfl : u = Value.ref a := rx
  exact ⟨dict_typeIs I2 g, d_getItem hu I2 g ry fun w' s3 I3 rw' => ⟨v, H2, I3, rw', q2⟩⟩
theorem ps_dput (hu : X.A.units + 1 < cLine) (ho : PE X o td) (hi : PE X i ty) (hv : PE X value tv) (hs : swapsWith value (some (.Subscript o i pos')) pos.line X.env = pure false) :
    PS X (.Assign [.Subscript o i pos'] value pos) (sDPut td ty tv) := by
  intro pins s σ H D I h
  refine wpAny_Assign_Subscript (thn (hv pins s σ H _ I h) fun r s1 ⟨v, H1, I1, rv, q1⟩ => thn (ho pins s1 σ H1 _ I1 q1) fun u s2 ⟨x, H2, I2, rx, q2⟩ => thn (hi pins s2 σ H2 _ I2 q2) fun iv s3 ⟨y, H3, I3, ry, a, H4, ex, g, q3⟩ => ?_) hs
  subst ex
  obtain rfl : u = Value.ref a := rx
  exact d_setItem hu I3 g ry rv fun s4 I4 => ⟨σ, H4, I4, q3⟩
end


/-! ### displays -/
theorem dk_empty {P : Program} {w : World} {H : Hp} (h : Heap) (hb : sysModules < h.objs.size) : ObjOk P w H (h.push { cls := .type "dict", data := .dict #[] }) h.objs.size (.dK []) :=
  ⟨Nat.zero_le _, beq_eq_false_iff_ne.mpr (Ne.symm (Nat.ne_of_lt hb)), [], .nil, Heap.DictOf.new h⟩
section
variable {X : Cx} {pos : Pos}
end

/-- the pairs of a display, from the left -/
def tPairs : List (TE × TE) → St → Hp → (List (V × V) → Hp → Prop) → Prop
  | [], _, H, Q => Q [] H
  | (tk, tv) :: r, σ, H, Q => tk σ H fun x H1 => tv σ H1 fun y H2 => tPairs r σ H2 fun ps H3 => Q ((x, y) :: ps) H3
abbrev VV : List (V × V) → List (Value × Value) → Prop := Paired fun p q => RelV p.1 q.1 ∧ RelV p.2 q.2
def PPs (X : Cx) (pos : Pos) (keys : List (Option Expr)) (values : List Expr) (trs : List (TE × TE)) : Prop :=
  ∀ (pins : List (Addr × Obj)) (s : Shared) (σ : St) (H : Hp) (Q : List (V × V) → Hp → Prop), Inv X pins σ H s → tPairs trs σ H Q →
    wpAny (model X.prog X.w) X.A (evalPairs (pairTrees keys values X.env pos)) (fun vs s' => ∃ ps H', Inv X pins σ H' s' ∧ VV ps vs ∧ Q ps H') X.xe s
theorem pps_nil {X : Cx} {pos : Pos} : PPs X pos [] [] [] := fun pins s σ H Q I h => pairTrees_nil_walk ⟨[], H, I, .nil, h⟩
theorem pps_cons {X : Cx} {pos : Pos} {k v : Expr} {ks : List (Option Expr)} {vs : List Expr} {tk tv : TE} {trs : List (TE × TE)} (hk : PE X k tk) (hv : PE X v tv) (hr : PPs X pos ks vs trs) :
    PPs X pos (some k :: ks) (v :: vs) ((tk, tv) :: trs) := fun pins s σ H Q I h =>
  pairTrees_cons_walk (thn (hk pins s σ H _ I h) fun u s1 ⟨x, H1, I1, rx, q1⟩ => thn (hv pins s1 σ H1 _ I1 q1) fun w2 s2 ⟨y, H2, I2, ry, q2⟩ =>
    thn (hr pins s2 σ H2 _ I2 q2) fun ws s3 ⟨ps, H3, I3, rel, q3⟩ => ⟨(x, y) :: ps, H3, I3, .cons ⟨rx, ry⟩ rel, q3⟩)

def mergeK (kvs more : List (Key × V)) : List (Key × V) := more.foldl (fun acc kv => putK acc kv.1 kv.2) kvs
theorem KV.merge : ∀ {more : List (Key × V)} {rs : List (Key × Value)} {kvs : List (Key × V)} {vs : List (Key × Value)}, KV more rs → KV kvs vs → KV (mergeK kvs more) (merged vs rs) := by
  intro more rs kvs vs r
  unfold KV at r
  induction r generalizing kvs vs with
  | nil => intro q; exact q
  | @cons p q ps qs h t ih =>
    intro r0
    have e : KV (putK kvs p.1 p.2) (stored vs q.1 q.2) := by
      have := r0.put p.1 h.2
      rw [← h.1]; exact this
    exact ih e
theorem length_mergeK : ∀ (more kvs : List (Key × V)), (mergeK kvs more).length ≤ kvs.length + more.length
  | [], kvs => by show kvs.length ≤ kvs.length + 0; omega
  | p :: r, kvs => by
    have h1 := length_mergeK r (putK kvs p.1 p.2)
    have h2 := length_putK kvs p.1 p.2
    show (mergeK (putK kvs p.1 p.2) r).length ≤ _
    rw [List.length_cons]; omega
theorem carries_of {P : Program} {w : World} : ∀ {kvs : List (Key × V)} {ws : List (Value × Value)}, VV (kvs.map fun kv => (kV kv.1, kv.2)) ws → ∃ rs, Carries (mixKind P w) ws rs ∧ KV kvs rs
  | [], _, r => by rw [List.map_nil] at r; cases r; exact ⟨[], True.intro, .nil⟩
  | p :: kvs, _, r => by
    rw [List.map_cons] at r
    cases r with
    | @cons a b as bs h t =>
      obtain ⟨rs, c, q⟩ := carries_of (P := P) (w := w) t
      obtain ⟨b1, b2⟩ := b
      exact ⟨(p.1, b2) :: rs, ⟨kV_is h.1, rfl, c⟩, .cons ⟨rfl, h.2⟩ q⟩
/-- {k: v, ..} with keys ints and texts; the new dict stands empty while the pairs are made -/
def tDisp (trs : List (TE × TE)) : TE := fun σ H Q => ∀ p, H p = none → tPairs trs σ (upd H p (.dK [])) fun ps H2 => H2 p = some (.dK []) ∧ ∃ kvs : List (Key × V), ps = kvs.map (fun kv => (kV kv.1, kv.2)) ∧ kvs.length ≤ 15 ∧ Q (.ref p) (upd H2 p (.dK (mergeK [] kvs)))
theorem pe_disp {X : Cx} {pos : Pos} {keys : List (Option Expr)} {values : List Expr} {trs : List (TE × TE)} (h : PPs X pos keys values trs) (hall : keys.all (·.isSome) = true) (hl : keys.length = values.length) (h0 : keys ≠ [])
    (h15 : keys.length ≤ 15) : PE X (.Dict keys values pos) (tDisp trs) := by
  intro pins s σ H Q I q
  have hn := I.hok.fresh (Nat.le_refl s.heap.objs.size)
  have I1 := I.laid (a := s.heap.objs.size) (o := .dK []) (h' := s.heap.push { cls := .type "dict", data := .dict #[] }) (t' := s.toks) (fun _ _ q => Heap.get?_push_of_some _ q) (Nat.le_refl _) (dk_empty s.heap I.big)
  refine wpAny_Dict_walk (knd := mixKind X.prog X.w) hall hl h0 h15 (thn (h pins _ σ _ _ I1 (q _ hn)) fun ws s2 ⟨ps, H2, I2, rel, e, kvs, ep, lk, q2⟩ => ?_)
  subst ep
  obtain ⟨rs, c, rk⟩ := carries_of (P := X.prog) (w := X.w) rel
  obtain ⟨z, hd, vs0, r0, dd⟩ := dk_of I2.hok e
  cases r0
  refine ⟨rs, c, dd, fun h' dd' hs => ⟨.ref s.heap.objs.size, _, ?_, rfl, q2⟩⟩
  have hz : (mergeK [] kvs).length ≤ sizeLine := by
    have h1 := length_mergeK kvs []
    rw [List.length_nil] at h1
    rw [sizeLine_eq]; omega
  have he : ∃ q, h'.get? s.heap.objs.size = some q := let ⟨q, _, _, hq, _⟩ := dd'; ⟨q, hq⟩
  exact d_write I2 (by rw [e]; exact True.intro) hs he (dk_new hz hd (rk.merge .nil) dd')


/-! ### methods -/


section
variable {X : Cx} {pins : List (Addr × Obj)} {σ : St} {H : Hp} {s : Shared} {a : Addr} {y d : V} {u r : Value} {o : Option V} {A : Around} {E : Value → Shared → Prop}
end

section
variable {X : Cx} {o e f : Expr} {apos cpos : Pos} {td ty tx : TE}
end

/-! ### dict(d): a copy -/
section
variable {X : Cx} {pins : List (Addr × Obj)} {σ : St} {H : Hp} {s : Shared} {a : Addr} {kvs : List (Key × V)} {A : Around} {E : Value → Shared → Prop}
end


section
variable {X : Cx} {pins : List (Addr × Obj)} {σ : St} {H : Hp} {s : Shared} {a : Addr} {y : V} {u : Value} {A : Around} {E : Value → Shared → Prop}
end
end L2

namespace Att
open PySem PySem.W PySem.Calls PyProof.Rows

/-! ### the script -/
theorem ints_of_wellAll {P : Params} {h : Heap} : ∀ (ns : List Int) (vs : List Value), WellAll P h vs (ns.map WData.int) → IntsAre vs ns := by
  intro ns
  induction ns with
  | nil =>
    intro vs w
    rw [List.map_nil] at w
    cases w
    exact .nil
  | cons n ns ih =>
    intro vs w
    rw [List.map_cons] at w
    cases w with
    | cons a b =>
      cases a
      exact .cons _ _ (ih _ b)

theorem script_of {l : OpenLaw} {n : Nat} (hn : l.most = some n) {P : Params} {h : Heap} {args : List WData} {vals : List Value}
    (hpre : l.row.toRowW.claim.pre args = true) (hwl : WellAll P h vals args) :
    ∃ a vs ns, vals = [Value.ref a] ∧ args = [WData.list (ns.map WData.int)] ∧ h.get? a = some { cls := .type "list", data := .seq vs.toArray } ∧ IntsAre vs ns ∧ ns.length ≤ n := by
  have hsh : WShape.hasAll [] args [.list .int] = true := (pre_splitW hpre).1
  have hc : l.pre.holds [] { args := args } = true := (pre_splitW hpre).2
  obtain ⟨d, r, rfl, h1, h2⟩ := hasAllW_cons hsh
  obtain rfl := hasAllW_nil h2
  obtain ⟨xs, rfl, h3⟩ := hasW_list h1
  obtain ⟨ns, rfl⟩ := items_int h3
  have hlen : ns.length ≤ n := by
    unfold OpenLaw.pre at hc
    have h4 : (WTm.not (.lt (.lit (.int (n : Int))) (.len (.arg 0)))).holds [] { args := [.list (ns.map .int)] } = true := by
      have h4 := (holds_andW hc).1
      rw [hn] at h4
      exact h4
    have h5 := condW_of h4 (w_not (w_lt w_lit (w_len_list (w_arg rfl))))
    rw [List.length_map] at h5
    refine Nat.le_of_not_lt fun q => ?_
    have q' : (n : Int) < ((ns.length : Nat) : Int) := by omega
    first
      | (rw [decide_eq_true q'] at h5; exact absurd h5 (by decide))
      | (simp at h5; omega)
  cases hwl with
  | cons w1 w2 =>
    cases w2
    cases w1 with
    | list ho hall => exact ⟨_, _, ns, rfl, rfl, ho, ints_of_wellAll ns _ hall, hlen⟩

theorem post_true (l : OpenLaw) (args : List WData) : l.row.toRowW.claim.post args (.bool true) args = true :=
  postW_of (r := l.row.toRowW) (X := (true == true))
    (show WShape.has [] (.bool true) .bool = true by first | rfl | decide | simp [WShape.has, WShape.arms, WShape.armsAll])
    (show (WTm.eq .res (.lit (.bool true))).value [] { args := args, res := some (.bool true), after := args } = some (.bool (true == true)) from w_eq_bool (w_res rfl) w_lit) rfl

/-! ### the attachment: holds_open's last premise (the goal 'hc' behind k_head) from a wpAny of the law's body -/

/-- the same from a codeAny of the CALL (for a layer whose function contracts speak of calls) -/
theorem attach_call {l : OpenLaw} {n : Nat} {q : Program} {loose : List Str} {XP : (Str → Option Value) → Heap → Prop} {YP : World → Heap → Prop} {d : DefRec}
    (hn : l.most = some n) (hdf : d.params.defaults = [])
    (call : ∀ (w : World) (s₀ s₁ : Shared) (mg mb : Str → Option Value) (fa : Addr) (o : Obj) (pm cd doc : Value) (a : Addr) (vs : List Value) (ns : List Int),
      Ground q loose [] XP w s₀ mg mb s₁.heap → YP w s₁.heap →
      s₁.heap.get? fa = some o → o.data = .func (docDef d.name d.params d.body d.scope pm cd doc) → s₁.heap.CodeRec cd d.name → mg d.name = some (.ref fa) →
      s₁.heap.get? a = some { cls := .type "list", data := .seq vs.toArray } → IntsAre vs ns → ns.length ≤ n → s₁.gens = #[] →
      codeAny (model l.prog w) callerA (.call (.ref fa) ⟨[.ref a], []⟩) (fun r s' => r = .ok (.ret (.bool true)) ∧ OldK s₁.heap s'.heap ∧ s'.os = s₁.os ∧ AllBare s'.gens) s₁) :
    WalkO q loose XP YP l.row.toRowW d [] (fun f vs => PySem.call f vs) := by
  intro w s₀ s₁ mg mb G Y fa o pm cd doc dV kV ho hd hcd hD hmg hg args vals as hpre hlay hrd hwl hlo
  obtain rfl : dV = .none := Dflts.none hD hdf
  obtain rfl : kV = .none := Dflts.noKw hD
  obtain ⟨a, vs, ns, rfl, rfl, hobj, hints, hlen⟩ := script_of hn hpre hwl
  refine enter_call (codeAny_mono (call w s₀ s₁ mg mb fa o pm cd doc a vs ns G Y ho (fd_plain hd) hcd hmg hobj hints hlen hg) fun r s' hq => ?_)
  obtain ⟨rfl, h2, h3, h4⟩ := hq
  exact ⟨.inl ⟨.bool true, .bool true, [], rfl, fun _ => rfl, .bool true, post_true l _, fun _ => ⟨List.Pairwise.nil, fun _ hm => (nomatch hm)⟩⟩, h2, h3, h4⟩


/-! ### rules over ANY heap (no ledger) from facts about the written part K: the library's own take a ledger (News) for what they write -/
section
variable {prog : Program} {w : World} {A : Around} {E : Value → Shared → Prop} {s : Shared} {K : Frag}





/-! the whole heap as the ledger: makes every rule that writes through a ledger a rule over any heap -/

end
end Att

namespace L2
open PySem PySem.Spec PyProof.Rows

theorem vals_ints : ∀ {vs : List Value} {ns : List Int}, IntsAre vs ns → Vals (ns.map V.int) vs
  | _, _, .nil => .nil
  | _, _, .cons n t h => .cons ⟨t, rfl⟩ (vals_ints h)

/-- nothing is tracked but the script, known to the object (or it is an object of the module) -/
def Only (H : Hp) : Prop := ∀ b, H b = none ∨ ∃ o xs, H b = some (.frz o (.lst xs))

/-- THE HEAD: the law's promise, at the heap behind the top. F, the promise of the law's def, may use that base is part of the heap (so K.In base, base.Ns mainGlobals mg stand in Mod) -/
theorem law_call {P : Program} {w : World} {K : PySem.W.Frag} {mg mb : Str → Option Value} {CX : CXT} {k : Nat} {fa a : Addr} {fd : FuncData} {x : Str} {sp : Sp} {s₁ : Shared} {vs : List Value} {ns : List Int}
    (KX : K.In s₁.heap) (hns : s₁.heap.Ns mainGlobals mg) (hb : s₁.heap.Ns builtinsNs mb) (hbb : ∀ x : Str, x ≠ "__name__" → mb x = bootBuiltins x) (hlim : s₁.heap.NoLimit) (hg : s₁.gens = #[])
    (ha : s₁.heap.get? a = some { cls := .type "list", data := .seq vs.toArray }) (hi : IntsAre vs ns) (hl : ns.length ≤ sizeLine) (hr : Room k callerA)
    (F : ∀ base : Heap, K.In base → base.Ns mainGlobals mg → FnOk P w K mg base CX k fa fd [x] sp) (hbind : ∀ (s : Shared) (u : Value), BindsTo s fd ⟨[u], []⟩ [(x, u)])
    (hsp : ∀ H : Hp, Only H → SqL K H a (ns.map V.int) → sp [.ref a] H (fun v _ => v = .bl true) fun _ _ _ => False)
    (hCX : ∀ H e s', CX [] H s₁ (fun _ _ _ => False) e s' → False) :
    codeAny (model P w) callerA (.call (.ref fa) ⟨[.ref a], []⟩) (fun r s' => r = .ok (.ret (.bool true)) ∧ OldK s₁.heap s'.heap ∧ s'.os = s₁.os ∧ AllBare s'.gens) s₁ := by
  have rv := vals_ints hi
  have lenV := hi.length
  -- from an abstract heap in which nothing but the script may be tracked
  have core : ∀ H : Hp, Only H → SqL K H a (ns.map V.int) → HOk P w H s₁.heap → (∀ b, H b ≠ none → b = a) → (H a ≠ none → K.lookup a = none) →
      codeAny (model P w) callerA (.call (.ref fa) ⟨[.ref a], []⟩) (fun r s' => r = .ok (.ret (.bool true)) ∧ OldK s₁.heap s'.heap ∧ s'.os = s₁.os ∧ AllBare s'.gens) s₁ := by
    intro H hO hS hok hA hK
    have base_of : ∀ {b : Addr} {o : Obj}, s₁.heap.get? b = some o → H b = none → (hidT s₁.heap H).get? b = some o := fun e n => hidT_get e n
    have noA : ∀ {b : Addr} {o : Obj} {es : Array DictEntry} {ep : Nat}, s₁.heap.get? b = some o → o.data = .dict es ep → H b = none := fun {b o es ep} e d => by
      cases q : H b with
      | none => rfl
      | some u =>
        have e' : b = a := hA b (by rw [q]; simp)
        subst e'
        rw [ha] at e; cases e
        have d' : Data.seq vs.toArray _ = Data.dict es ep := d
        cases d'
    have nsK : ∀ {b : Addr} {m : Str → Option Value}, s₁.heap.Ns b m → (hidT s₁.heap H).Ns b m := fun {b m} ⟨o, es, ep, e, d, r⟩ => ⟨o, es, ep, base_of e (noA e d), d, r⟩
    have hKb : K.In (hidT s₁.heap H) := fun b o e => base_of (KX b o e) (by
      cases q : H b with
      | none => rfl
      | some u =>
        have e' : b = a := hA b (by rw [q]; simp)
        subst e'
        rw [hK (by rw [q]; simp)] at e; cases e)
    have hM : Mod K mg (hidT s₁.heap H) := ⟨hKb, nsK hns, ⟨mb, nsK hb, hbb⟩, let ⟨mc, h1, h2⟩ := hlim; ⟨mc, nsK h1, h2⟩⟩
    have e0 : Env0 P w K mg (hidT s₁.heap H) callerA [] s₁ H := ⟨rfl, hM, fun b o e => of_hidT e, Nat.le_of_eq (hidT_size _ _), trivial, fun b hb => absurd (show b ∈ ([] : List Addr) from hb) (by simp), hok, .of_eq hg⟩
    refine codeAny_mono ((F _ hKb (nsK hns)).run callerA [] s₁ H ⟨[.ref a], []⟩ [.ref a] [.ref a] _ _ hr e0 (hbind s₁ (.ref a)) (.cons rfl .nil) (hsp H hO hS)) fun r s' h => ?_
    cases r with
    | error e => exact (hCX H e s' h).elim
    | ok fl =>
      cases fl with
      | next => exact False.elim h
      | brk => exact False.elim h
      | cont => exact False.elim h
      | ret u =>
        obtain ⟨v, H', os, bare, un, hok', r', q⟩ := h
        have q' : v = .bl true := q
        subst q'
        obtain rfl : u = Value.bool true := r'
        refine ⟨rfl, OldK.of_keep fun b o e => ?_, os, bare⟩
        cases q : H b with
        | none => exact un.keep b o e q (by intro z; exact absurd (show b ∈ ([] : List Addr) from z) (by simp)) (by simp)
        | some u =>
          rcases hO b with z | ⟨ob, xs, z⟩
          · rw [q] at z; cases z
          · have z2 := un.frzs b ob _ z
            obtain ⟨e1, _⟩ := hok b _ z
            obtain ⟨e2, _⟩ := hok' b _ z2
            rw [e] at e1; cases e1
            exact e2
  cases hk : K.lookup a with
  | some o =>
    -- the script is one of the module's own objects
    have e := KX a o hk
    rw [ha] at e
    cases e
    refine core (fun _ => none) (fun _ => .inl rfl) (.inr ⟨_, vs.toArray, _, hk, rfl, rfl, rfl, by rw [List.size_toArray, lenV]; exact hl, by simpa using rv⟩) (fun b u z => by have z' : (none : Option HO) = some u := z; cases z') (fun b z => absurd rfl z) fun z => absurd rfl z
  | none =>
    refine core (fun b => if b = a then some (.frz { cls := .type "list", data := .seq vs.toArray } (.lst (ns.map V.int))) else none) (fun b => ?_) (.inl (.inr ⟨{ cls := .type "list", data := .seq vs.toArray }, if_pos rfl⟩)) (fun b u z => ?_) (fun b z => ?_) fun _ => hk
    · by_cases hb : b = a
      · exact .inr ⟨_, _, if_pos hb⟩
      · exact .inl (if_neg hb)
    · by_cases hb : b = a
      · have z' := (if_pos hb).symm.trans z
        cases z'
        subst hb
        exact ⟨ha, by rw [List.length_map]; exact hl, vs, _, rv, ha⟩
      · have z' := (if_neg hb).symm.trans z
        cases z'
    · by_cases hb : b = a
      · exact hb
      · exact absurd (if_neg hb) z
end L2

namespace L2
open PySem PySem.Spec PyProof.Rows


/-- the goal that k_head leaves (case hc), from the law's promise. F gives the function object fd (K's own) once, then the promise over every base -/
theorem walk_of {l : PySem.W.OpenLaw} {n k : Nat} {q : Program} {loose : List Str} {XP : (Str → Option Value) → Heap → Prop} {YP : World → Heap → Prop} {d : DefRec} {K : Params → PySem.W.Frag} {CX : World → CXT} {sp : World → Sp} {x : Str}
    (hn : l.most = some n) (hn2 : n ≤ sizeLine) (hdf : d.params.defaults = []) (hr : Room k callerA)
    (hY : ∀ (w : World) (h : Heap), YP w h → (K w.params).In h)
    (F : ∀ (w : World) (mg : Str → Option Value) (fa : Addr) (h : Heap), (K w.params).In h → h.Ns mainGlobals mg → mg d.name = some (.ref fa) →
      ∃ fd : FuncData, (∀ (s : Shared) (u : Value), BindsTo s fd ⟨[u], []⟩ [(x, u)]) ∧
        ∀ base : Heap, (K w.params).In base → base.Ns mainGlobals mg → FnOk l.prog w (K w.params) mg base (CX w) k fa fd [x] (sp w))
    (hsp : ∀ (w : World) (H : Hp) (a : Addr) (ns : List Int), ns.length ≤ n → Only H → SqL (K w.params) H a (ns.map V.int) → sp w [.ref a] H (fun v _ => v = .bl true) fun _ _ _ => False)
    (hCX : ∀ (w : World) (H : Hp) (s : Shared) (e : Value) (s' : Shared), CX w [] H s (fun _ _ _ => False) e s' → False) :
    PySem.W.WalkO q loose XP YP l.row.toRowW d [] (fun f vs => PySem.call f vs) := by
  refine Att.attach_call hn hdf fun w s₀ s₁ mg mb fa o pm cd doc a vs ns G Y ho hd hcd hmg hobj hints hlen hg => ?_
  have KX := hY w _ Y
  obtain ⟨fd, hb, hF⟩ := F w mg fa _ KX G.T.g hmg
  exact law_call KX G.T.g G.T.b G.T.builtins G.T.nolimit hg hobj hints (Nat.le_trans hlen hn2) hr hF hb (fun H hO hS => hsp w H a ns hlen hO hS) fun H e s' => hCX w H s₁ e s'
end L2

/- THE LAST THEOREM (shape; LID, My.* are yours):
   My.Adr: a structure of the addresses that your layer names (classes, functions); My.Txt K t: a structure (Prop) of the equations over K;
   My.txt_mk : {K} {implicit addresses ..} (e1 : nsIn K mainGlobals "law" = some (some (.ref f))) (e2 : K.lookup f = some ⟨oc, od, .func (fnOf "law" "law" params body scope dV kV doc pm an cdv ct), sl⟩) (e3 : codeIn K cdv "law" = true) .. : ∃ t, My.Txt K t

set_option maxRecDepth 100000 in
set_option maxHeartbeats 0 in
theorem PySem.Challenge.cw_LID_holds : PySem.Challenge.rw_LID.Holds := by
  w_on; o_law; k_head; (case hw => w_witness2)
  k_fill
  refine L2.walk_of (l := PySem.Challenge.rw_LID) (n := 63) (k := 40) (x := "script") (CX := fun w => ..) (sp := fun _ => My.sp_law) rfl (by decide) rfl ⟨rfl, by decide, by decide⟩ (fun w h Y => PySem.W.kIn_of Y) ?F ?S ?C
  case F =>
    intro w mg fa h KX G hmg
    have T : ∃ t, My.Txt (L2.KOf KX) t := by
      dsimp only [L2.KOf]                          -- K must stand as «<heap const> w.params» for k_is
      refine' My.txt_mk ?e1 ?e2 ?e3 ..
      (case e1 => PySem.W.k_is)                    -- in the order: a name -> its address -> its object -> its parts
      (case e2 => PySem.W.k_is)
      ..
    obtain ⟨t, T⟩ := T
    have e0 := hmg.symm.trans (PySem.W.mg_of KX G T.law)
    cases e0                                       -- fa is the law's own address
    exact ⟨_, fun s u => .of_eq rfl, fun base kb nb => My.law_fn T kb nb⟩     -- if «.of_eq rfl» comes too early: refine' ⟨_, ?b, fun base kb nb => My.law_fn T kb nb⟩; exact fun s u => .of_eq rfl
  case S => exact fun w H a ns hl hO hS => ..
  case C => exact ..
(the tactic k_is has no namespace: write k_is) -/

/-! SHORT WORDS over the layer: a def of the text, its body, what a loop and a test want. -/
namespace L2
open PySem PySem.Spec PyProof.Rows

/-! ### the text by places -/
def defArgs (s : Stmt) : Arguments := match s with
  | .FunctionDef _ a _ _ _ _ _ _ _ _ => a
  | _ => { posonlyargs := [], args := [], vararg := none, kwonlyargs := [], kw_defaults := [], kwarg := none, defaults := [] }
def defBody (s : Stmt) : List Stmt := match s with
  | .FunctionDef _ _ b _ _ _ _ _ _ _ => b
  | _ => []
def defScope (s : Stmt) : Scope := match s with
  | .FunctionDef _ _ _ _ _ _ sc _ _ _ => sc
  | _ => { kind := .function, names := [], isGenerator := false, isCoroutine := false }

/-! ### no exception leaves a def -/
abbrev CX0 : CXT := fun _ _ _ _ _ _ => False
abbrev E0 : XK := fun _ _ _ => False
theorem pass0 {X : Cx} : Passes CX0 X E0 := fun _ _ _ _ _ _ _ h => h.elim

/-! ### a def (or method) of the text as it stands behind the top -/
structure Fun (K : PySem.W.Frag) (x qual : Str) (st : Stmt) (f : Addr) (fd : FuncData) : Prop where
  ex : ∃ (oc : Value) (od : Option Addr) (kV doc pm : Value) (an : Option Addr) (cdv ct : Value) (osl : Array (Option Value)),
    fd = PySem.W.fnOf x qual (defArgs st) (defBody st) (defScope st) .none kV doc pm an cdv ct ∧ K.lookup f = some ⟨oc, od, .func fd, osl⟩ ∧ PySem.W.codeIn K cdv qual = true
  kp : PySem.W.keepIn K (.ref f) = true
section
variable {P : Program} {w : World} {K : PySem.W.Frag} {mg : Str → Option Value} {base : Heap}
/-- THE RULE for a def: its body as a term of rules, and the reading of that term -/
theorem Fun.ok {x qual : Str} {st : Stmt} {f : Addr} {fd : FuncData} {N ps : List Str} {k : Nat} {sp : Sp} (F : Fun K x qual st f fd) (S : FnScope N ps (defScope st)) (len : ∀ vs H Q E, sp vs H Q E → vs.length = ps.length)
    (hbody : ∀ (cdv : Value) (A : Around) (outer : List Env) (s : Shared) (H : Hp) (vs : List V) (Q : VK) (E : XK), Room k (A.deeper (envOfC qual (defScope st) s.heap.objs.size f cdv)) → sp vs H Q E →
      ∃ t, PSs (cxOf CX0 P w K mg base N qual (defScope st) f cdv A outer s H E).nox (defBody st) t ∧ t { nx := fun _ H' => Q .non H', rt := Q } (start N vs) H) : FnOk P w K mg base CX0 (k + 1) f fd ps sp := by
  obtain ⟨oc, od, kV, doc, pm, an, cdv, ct, osl, rfl, lk, hcd⟩ := F.ex
  refine fn_of lk hcd S len fun A outer s H vs Q E hr hsp => ?_
  obtain ⟨t, h, q⟩ := hbody cdv A outer s H vs Q E hr hsp
  exact ⟨t, h.nox, q⟩
/-- how its arguments bind (no defaults): h is «fun _ _ _ _ _ _ us hl => match us, hl with | [_, _], _ => rfl», one _ a parameter -/
theorem Fun.binds {x qual : Str} {st : Stmt} {f : Addr} {fd : FuncData} {ps : List Str} (F : Fun K x qual st f fd)
    (h : ∀ (kV doc pm : Value) (an : Option Addr) (cdv ct : Value) (us : List Value), us.length = ps.length → bindArgs (PySem.W.fnOf x qual (defArgs st) (defBody st) (defScope st) .none kV doc pm an cdv ct) ⟨us, []⟩ = pure (ps.zip us)) : Binds K fd ps [] := by
  obtain ⟨oc, od, kV, doc, pm, an, cdv, ct, osl, rfl, lk, hcd⟩ := F.ex
  exact .all (h kV doc pm an cdv ct)
theorem fun_mk {x qual : Str} {st : Stmt} {f : Addr} {oc : Value} {od an : Option Addr} {osl : Array (Option Value)} {kV doc pm cdv ct : Value} (l : K.lookup f = some ⟨oc, od, .func (PySem.W.fnOf x qual (defArgs st) (defBody st) (defScope st) .none kV doc pm an cdv ct), osl⟩)
    (c : PySem.W.codeIn K cdv qual = true) (k : PySem.W.keepIn K (.ref f) = true) : Fun K x qual st f (PySem.W.fnOf x qual (defArgs st) (defBody st) (defScope st) .none kV doc pm an cdv ct) := ⟨⟨oc, od, kV, doc, pm, an, cdv, ct, osl, rfl, l, c⟩, k⟩
end
theorem hu_of {A : Around} {k : Nat} (hr : Room k A) : A.units + 1 < cLine := Nat.lt_of_le_of_lt (Nat.add_le_add_left (by decide : 1 ≤ 64) _) hr.units

/-! ### expressions in short: the name that stands in the i-th slot -/
section
variable {X : Cx}
theorem pv (i : Nat) {x : Str} {pos : Pos} (hN : X.N[i]? = some x := by rfl) (hv : Vis X.env.scope x := by first | exact Or.inl rfl | exact Or.inr (Or.inl rfl) | exact Or.inr (Or.inr rfl)) (hd : (x == ("__debug__" : Str)) = false := by decide)
    (hcd : (x == ("__classdict__" : Str)) = false := by decide) : PE X (.Name x pos) (tVar i) := pe_var hN hv hd hcd
end

/-! ### tests -/
theorem iteF {A B : Prop} (h : B) : if false = true then A else B := by
  rw [if_neg Bool.false_ne_true]
  exact h
theorem iteT {A B : Prop} (h : A) : if true = true then A else B := by
  rw [if_pos rfl]
  exact h
theorem ite2 {c A B : Prop} [Decidable c] (h1 : c → A) (h2 : ¬ c → B) : if c then A else B := by
  by_cases h : c
  · rw [if_pos h]
    exact h1 h
  · rw [if_neg h]
    exact h2 h

/-! ### heaps -/
/-- all that was tracked is as it was -/
def Same (H H' : Hp) : Prop := ∀ b o, H b = some o → H' b = some o
theorem Same.refl (H : Hp) : Same H H := fun _ _ h => h
theorem Same.trans {H H1 H2 : Hp} (a : Same H H1) (b : Same H1 H2) : Same H H2 := fun c o h => b c o (a c o h)
theorem Same.seq {K : PySem.W.Frag} {H H' : Hp} {a : Addr} {xs : List V} (e : Same H H') (h : SqL K H a xs) : SqL K H' a xs := by
  rcases h with (h | ⟨o, h⟩) | h
  · exact .inl (.inl (e _ _ h))
  · exact .inl (.inr ⟨o, e _ _ h⟩)
  · exact .inr h

end L2

namespace L2
open PySem PySem.Spec PyProof.Rows
section
variable {X : Cx}
end
/-! ### a dict's pairs: keys that differ -/
section
variable {κ : Type} [DecidableEq κ]
end
end L2


set_option Elab.async false
set_option linter.all false
set_option maxRecDepth 100000
set_option maxHeartbeats 4000000
namespace L2
open PySem PySem.Spec PyProof.Rows

/-! ### a list comprehension of one clause -/
section
variable {prog : Program} {w : World} {A : Around} {E : Value → Shared → Prop} {R : Result → Shared → Prop} {s : Shared}
theorem compLoop_gen {elt target iter : Expr} {ifs : List Expr} {scope : Scope} {pos : Pos} {it acc : Value} {env : Env} (I : Nat → Shared → Prop)
    (turn : ∀ n s, I n s → wpAny (model prog w) A (pyNext it) (fun r s1 => match r with
      | none => R (.ok .next) s1
      | some v => wpAny (model prog w) A (letOwnedTupleGo target it v) (fun _ s1' => wpAny (model prog w) A (assign target env v) (fun _ s2 =>
          wpAny (model prog w) A (forIn ifs true fun c r => if r = true then do let ok ← isTrue c env (eval c env); pure (ForInStep.yield ok) else pure (ForInStep.yield r)) (fun ok s3 =>
            if ok = true then wpAny (model prog w) A (eval elt env) (fun x s4 =>
              wpAny (model prog w) A (call (.builtin "list.append") [acc, x]) (fun _ s5 => ∃ m, m < n ∧ I m s5) (fun _ _ => False) s4) (fun _ _ => False) s3
            else ∃ m, m < n ∧ I m s3) (fun _ _ => False) s2) (fun _ _ => False) s1') (fun _ _ => False) s1) (fun _ _ => False) s)
    (n : Nat) (h : I n s) :
    codeAny (model prog w) A (.compLoop (.ListComp elt [⟨target, iter, ifs, 0⟩] scope pos) 0 it acc env) R s := by
  refine codeAny_loop rfl I (fun n s hI => ?_) n h
  show wpAny _ A ((compTurn (.ListComp elt [⟨target, iter, ifs, 0⟩] scope pos) 0 it acc env).onRaise (fun x => do noteFrame x env; theTreesLotGoes x)) _ _ s
  refine wpAny_noted ?_
  rw [compTurn_list]
  refine wpAny_bind (wpAny_standAt (wpAny_bind (wpAny_mono (turn n s hI) (fun r s₁ h₁ => ?_) fun _ _ h' => h'.elim)))
  cases r with
  | none => exact wpAny_pure h₁
  | some v =>
    refine wpAny_bind (wpAny_mono h₁ (fun _ s1' h1' => ?_) fun _ _ h' => h'.elim)
    refine wpAny_bind (wpAny_mono h1' (fun _ s₂ h₂ => wpAny_bind (wpAny_mono h₂ (fun ok s₃ h₃ => ?_) fun _ _ h' => h'.elim)) fun _ _ h' => h'.elim)
    cases ok with
    | false => exact wpAny_pure ⟨rfl, h₃⟩
    | true =>
      exact wpAny_bind (wpAny_bind (wpAny_mono h₃ (fun x s₄ h₄ => wpAny_bind (wpAny_mono h₄ (fun _ s₅ h₅ => wpAny_pure (wpAny_pure ⟨rfl, h₅⟩)) fun _ _ h' => h'.elim)) fun _ _ h' => h'.elim))
end

theorem closure_of {env : Env} : ∀ (names : List (Str × NameKind)) (cs : List (Str × Addr)), (∀ n, (n, NameKind.free) ∈ names → ∃ c, env.cells.lookup n = some c) →
    ∃ cl, (forIn names cs fun (x : Str × NameKind) (r : List (Str × Addr)) => match x with
      | (name, kind) => if (kind == NameKind.free) = true then do let c ← cellOf env name; pure (ForInStep.yield ((name, c) :: r)) else pure (ForInStep.yield r) : Sem (List (Str × Addr))) = pure cl ∧
      (∀ p ∈ cl, p ∈ cs ∨ env.cells.lookup p.1 = some p.2) ∧ (∀ p ∈ cs, p ∈ cl) ∧ (∀ n, (n, NameKind.free) ∈ names → ∃ c, (n, c) ∈ cl)
  | [], cs, _ => ⟨cs, by simp, fun p hp => .inl hp, fun p hp => hp, fun n hn => by cases hn⟩
  | (n, k) :: r, cs, h => by
    by_cases hk : (k == NameKind.free) = true
    · have hk' : k = NameKind.free := eq_of_beq hk
      subst hk'
      obtain ⟨c, hc⟩ := h n (List.mem_cons_self)
      obtain ⟨cl, e, h1, h2, h3⟩ := closure_of r ((n, c) :: cs) fun m hm => h m (List.mem_cons_of_mem _ hm)
      refine ⟨cl, ?_, fun p hp => ?_, fun p hp => h2 p (List.mem_cons_of_mem _ hp), fun m hm => ?_⟩
      · rw [List.forIn_cons]
        simp only [hk, if_true]
        unfold cellOf
        rw [hc]
        exact e
      · rcases h1 p hp with q | q
        · rcases List.mem_cons.mp q with q | q
          · subst q; exact .inr hc
          · exact .inl q
        · exact .inr q
      · rcases List.mem_cons.mp hm with q | q
        · cases q; exact ⟨c, h2 _ List.mem_cons_self⟩
        · exact h3 m q
    · obtain ⟨cl, e, h1, h2, h3⟩ := closure_of r cs fun m hm => h m (List.mem_cons_of_mem _ hm)
      refine ⟨cl, ?_, h1, h2, fun m hm => ?_⟩
      · rw [List.forIn_cons]
        simp only [hk]
        exact e
      · rcases List.mem_cons.mp hm with q | q
        · cases q; exact absurd rfl hk
        · exact h3 m q
theorem lookup_mem {κ : Type} [BEq κ] [LawfulBEq κ] {β : Type} : ∀ {l : List (κ × β)} {x : κ} {c : β}, l.lookup x = some c → (x, c) ∈ l
  | [], _, _, h => by simp at h
  | (n, k) :: r, x, c, h => by
    cases hx : x == n with
    | true =>
      simp only [List.lookup_cons, hx] at h
      cases h
      have e := eq_of_beq hx
      subst e
      exact List.mem_cons_self
    | false =>
      simp only [List.lookup_cons, hx] at h
      exact List.mem_cons_of_mem _ (lookup_mem h)
theorem mem_lookup {κ : Type} [BEq κ] [LawfulBEq κ] {β : Type} : ∀ {l : List (κ × β)} {x : κ} {c : β}, (x, c) ∈ l → ∃ c', l.lookup x = some c'
  | (n, k) :: r, x, c, h => by
    cases hx : x == n with
    | true => exact ⟨k, by simp only [List.lookup_cons, hx]⟩
    | false =>
      rcases List.mem_cons.mp h with q | q
      · cases q; simp at hx
      · obtain ⟨c', e⟩ := mem_lookup q
        exact ⟨c', by simp only [List.lookup_cons, hx]; exact e⟩
/-- the closure that a block takes along -/
theorem closure_ok {scope : Scope} {env : Env} (h : ∀ n, (n, NameKind.free) ∈ scope.names → ∃ c, env.cells.lookup n = some c) :
    ∃ cl, closureFor scope env = pure cl ∧ (∀ x c, cl.lookup x = some c → env.cells.lookup x = some c) ∧ ∀ n, (n, NameKind.free) ∈ scope.names → ∃ c, cl.lookup n = some c := by
  obtain ⟨cl, e, h1, _, h3⟩ := closure_of scope.names [] h
  refine ⟨cl, ?_, fun x c hx => ?_, fun n hn => ?_⟩
  · have e2 : closureFor scope env = ((forIn scope.names ([] : List (Str × Addr)) fun (x : Str × NameKind) (r : List (Str × Addr)) => match x with
          | (name, kind) => if (kind == NameKind.free) = true then do let c ← cellOf env name; pure (ForInStep.yield ((name, c) :: r)) else pure (ForInStep.yield r) : Sem (List (Str × Addr))) >>= fun r => pure r) := rfl
    rw [e2, e]
    rfl
  · rcases h1 _ (lookup_mem hx) with q | q
    · cases q
    · exact q
  · obtain ⟨c, hc⟩ := h3 n hn
    exact mem_lookup hc

/-- the context of a comprehension's block: N' its names, ex its iterator's records and its list -/
def compCx (X : Cx) (N' : List Str) (scope : Scope) (cl : List (Str × Addr)) (C : Addr) (ex : List Addr) (s0 : Shared) (H0 : Hp) : Cx :=
  { X with N := N', s₀ := s0, H₀ := H0, env := compEnvC scope cl C X.env, outer := X.stack, stack := X.stack, ex := ex, fn := fun _ => false, pn := [], xe := fun _ _ => False }
end L2

set_option Elab.async false
set_option linter.all false
set_option maxRecDepth 100000
set_option maxHeartbeats 4000000
namespace L2
open PySem PySem.Spec PyProof.Rows
section
variable {X : Cx} {pins : List (Addr × Obj)} {σ : St} {H : Hp} {s : Shared}
/-- an object of ours, not tracked so far, is tracked from here on -/
theorem Inv.track {a : Addr} {o : HO} (I : Inv X pins σ H s) (f : FpOk X pins H a) (new : ObjOk X.prog X.w (upd H a o) s.heap a o) : Inv X pins σ (upd H a o) s := by
  obtain ⟨f0, f1, f2, f3, f4, f5⟩ := f
  have ne : ∀ b u, H b = some u → b ≠ a := fun b u e => ne_of_none e f0
  refine ⟨I.ok, I.os, I.bare, ⟨I.base.keep, I.base.slot, fun b ob e n hx => ?_, I.base.there, fun b xs e => ?_, fun b ob u e => ?_, fun b ps e => ?_⟩, I.loc, I.cell, ?_, fun x c e => ?_, fun p hp => ?_, fun b u e => ?_, I.len⟩
  · have hb : b ≠ a := by
      rintro rfl
      rcases f3 with z | z
      · exact hx z
      · exact absurd (Nat.lt_of_lt_of_le (Heap.lt_size e) z) (Nat.lt_irrefl _)
    rw [upd_ne hb]
    exact I.base.free b ob e n hx
  · have q := I.base.tups b xs e
    rw [upd_ne (ne _ _ q)]; exact q
  · have q := I.base.frzs b ob u e
    rw [upd_ne (ne _ _ q)]; exact q
  · obtain ⟨more, q⟩ := I.base.tbls b ps e
    exact ⟨more, by rw [upd_ne (ne _ _ q)]; exact q⟩
  · rw [upd_ne (Ne.symm f1)]; exact I.free
  · rw [upd_ne (f4 x c e)]; exact I.freeC x c e
  · obtain ⟨e, n, ne', nf, d⟩ := I.pin p hp
    exact ⟨e, by rw [upd_ne (f5 p hp)]; exact n, ne', nf, d⟩
  · by_cases hb : b = a
    · subst hb
      rw [upd_same] at e; cases e
      exact new
    · rw [upd_ne hb] at e
      exact (I.hok b u e).stay (fun c v _ q => q) (fun c q => by rw [upd_ne (ne _ _ q)]; exact q) fun c xs q => by rw [upd_ne (ne _ _ q)]; exact q
end

/-- the tests of a clause -/
def PTs (X : Cx) (ifs : List Expr) (t : TT) : Prop :=
  ∀ (pins : List (Addr × Obj)) (s : Shared) (σ : St) (H : Hp) (Q : Bool → Hp → Prop), Inv X pins σ H s → t σ H Q →
    wpAny (model X.prog X.w) X.A (forIn ifs true fun c r => if r = true then do let ok ← isTrue c X.env (eval c X.env); pure (ForInStep.yield ok) else pure (ForInStep.yield r)) (TP X pins σ Q) X.xe s
def tNoTest : TT := fun _ H Q => Q true H
theorem pts_nil {X : Cx} : PTs X [] tNoTest := fun _ _ _ H _ I h => wpAny_tests_nil ⟨H, I, h⟩
theorem pts_one {X : Cx} {c : Expr} {t : TT} (h : PT X c t) : PTs X [c] t := fun pins s σ H Q I q => wpAny_tests_one (h pins s σ H Q I q)

/-- slot i of the block is slot j of the body (some j), or the block's own (none) -/
def liftSt (src : List (Option Nat)) (σ : St) : St := src.map fun o => match o with | some j => (σ[j]?).getD none | none => none
def tComp (src : List (Option Nat)) (wi : TI) (g : TG) (tt : TT) (te : TE) : TE := fun σ H Q => wi σ H fun J H1 => ∃ W : Nat → Nat → List V → St → Hp → Prop, (∃ m, W 0 m [] (liftSt src σ) H1) ∧ ∀ i m ys σc H, W i m ys σc H →
  (J.stop i H ∧ ∀ l, H l = none → Q (.ref l) (upd H l (.lst ys))) ∨
  (J.go i H ∧ ys.length < sizeLine ∧ ∀ x H', J.yld i H x H' → g x σc H' fun σ2 H2 => tt σ2 H2 fun b H3 =>
    if b = true then te σ2 H3 fun v H4 => ∃ m', m' < m ∧ W (i + 1) m' (ys ++ [v]) σ2 H4 else ∃ m', m' < m ∧ W (i + 1) m' ys σ2 H3)

section
variable {X : Cx} {elt tg iter : Expr} {ifs : List Expr} {scope : Scope} {pos : Pos} {N' : List Str} {src : List (Option Nat)} {wi : TI} {g : TG} {tt : TT} {te : TE}

theorem relabel_free {env : Env} : ∀ {names : List (Str × NameKind)} {x : Str} {k : NameKind}, (names.map fun (n, k) => if (k == NameKind.free && env.scope.kind == .function && env.kindOf n == some .cell) then (n, NameKind.cell) else (n, k)).lookup x = some k →
    (k = .cell ∨ k = .free) → (∀ y ∈ names, y.2 ≠ .cell) → (x, NameKind.free) ∈ names
  | [], _, _, h, _, _ => by simp at h
  | (n, k') :: r, x, k, h, hk, hc => by
    have ih := @relabel_free env r x k
    have h' : List.lookup x ((if (k' == NameKind.free && env.scope.kind == .function && env.kindOf n == some .cell) = true then (n, NameKind.cell) else (n, k')) :: (r.map fun (n, k) => if (k == NameKind.free && env.scope.kind == .function && env.kindOf n == some .cell) then (n, NameKind.cell) else (n, k))) = some k := h
    by_cases hx : x = n
    · subst hx
      by_cases hf : k' = .free
      · subst hf; exact List.mem_cons_self
      · have e : (k' == NameKind.free) = false := by simpa using hf
        rw [e] at h'
        simp only [Bool.false_and, Bool.false_eq_true, if_false, List.lookup_cons, beq_self_eq_true] at h'
        have e' : k' = k := Option.some.inj h'
        rcases hk with q | q
        · exact absurd (e'.trans q) (hc (x, k') List.mem_cons_self)
        · exact absurd (e'.trans q) hf
    · have e : (x == n) = false := by simpa using hx
      have h2 : (r.map fun (n, k) => if (k == NameKind.free && env.scope.kind == .function && env.kindOf n == some .cell) then (n, NameKind.cell) else (n, k)).lookup x = some k := by
        by_cases hc2 : (k' == NameKind.free && env.scope.kind == .function && env.kindOf n == some .cell) = true
        · rw [if_pos hc2] at h'; simp only [List.lookup_cons, e] at h'; exact h'
        · rw [if_neg hc2] at h'; simp only [List.lookup_cons, e] at h'; exact h'
      exact List.mem_cons_of_mem _ (ih h2 hk fun y hy => hc y (List.mem_cons_of_mem _ hy))

/-- what a comprehension's scope must be (each by rfl or decide) -/
structure CompScope (X : Cx) (scope : Scope) (N' : List Str) (src : List (Option Nat)) : Prop where
  kind : scope.kind = .function
  cell : ∀ y ∈ scope.names, y.2 ≠ .cell
  names : ∀ x ∈ scope.names, x.2 = .local → scope.names.lookup x.1 = some .local
  fr : ∀ n, (n, NameKind.free) ∈ scope.names → X.env.kindOf n = some .cell ∨ X.env.kindOf n = some .free
  excl : ∀ n, (n, NameKind.free) ∈ scope.names → ¬ scope.names.lookup n = some .local
  len : N'.length = src.length
  src : ∀ (i j : Nat), src[i]? = some (some j) → ∃ x : Str, N'[i]? = some x ∧ X.N[j]? = some x ∧ (x, NameKind.free) ∈ scope.names

/-- the block's own context, as it is entered -/
theorem comp_enter {cl : List (Str × Addr)} {C D : Addr} {fp : List Addr} {pins : List (Addr × Obj)} {σ : St} {H : Hp} {s3 : Shared} {h1 : Heap} {tk : Nat} (S : CompScope X scope N' src) (I3 : Inv X pins σ H s3)
    (hcl1 : ∀ x c, cl.lookup x = some c → X.env.cells.lookup x = some c) (hcl2 : ∀ n, (n, NameKind.free) ∈ scope.names → ∃ c, cl.lookup n = some c) (hC : C = s3.heap.objs.size)
    (hf : ∀ b ∈ D :: fp, FpOk X pins H b) (hlt : ∀ b ∈ D :: fp, b < s3.heap.objs.size) (hns : h1.Ns C (fun _ => none)) (hk : ∀ b o, s3.heap.get? b = some o → h1.get? b = some o) :
    Inv (compCx X N' scope cl C (D :: fp) s3 H) [] (liftSt src σ) H { s3 with heap := h1, toks := tk } := by
  have neC : ∀ b o, s3.heap.get? b = some o → b ≠ C := fun b o e => by rw [hC]; exact Nat.ne_of_lt (Heap.lt_size e)
  have HC : H C = none := I3.hok.fresh (Nat.le_of_eq hC.symm)
  have ok : (compCx X N' scope cl C (D :: fp) s3 H).Ok := by
    refine ⟨I3.ok.mod, S.kind, I3.ok.glob, I3.ok.blt, Nat.le_of_eq hC.symm, fun x y c e1 e2 => I3.ok.inj x y c (hcl1 x c e1) (hcl1 y c e2), fun x hx => ?_, fun x c z => absurd z Bool.false_ne_true, I3.ok.hd, I3.ok.frames, .inl rfl, fun b hb => ⟨?_, fun x c e => ?_⟩, I3.bs, Nat.le_trans I3.ok.bsz I3.sz, fun b o e hb => ?_, fun b hb => ?_, I3.stack, I3.stkFree⟩
    · refine hcl2 x ?_
      rcases hx with z | z
      · exact relabel_free (env := X.env) (show ((scope.names.map _).lookup x) = some .cell from z) (.inl rfl) S.cell
      · exact relabel_free (env := X.env) (show ((scope.names.map _).lookup x) = some .free from z) (.inr rfl) S.cell
    · show b ≠ C
      rw [hC]; exact Nat.ne_of_lt (hlt b hb)
    · exact (hf b hb).2.2.2.2.1 x c (hcl1 x c e)
    · rcases (hf b hb).2.2.2.1 with z | z
      · exact I3.ok.noex b o e z
      · exact absurd (Nat.lt_of_lt_of_le (Nat.lt_of_lt_of_le (Heap.lt_size e) I3.ok.bsz) z) (Nat.lt_irrefl _)
    · intro z
      have z' : b ∈ frs X.stack := z
      rcases List.mem_cons.mp (I3.stkSub b z') with q | q
      · exact (hf b hb).2.1 q
      · exact (hf b hb).2.2.1 q
  refine ⟨ok, rfl, I3.bare, Un.kept hk, ⟨_, hns, fun i x v e1 e2 e3 => ?_⟩, fun x c e => ?_, HC, fun x c e => I3.freeC x c (hcl1 x c e), fun p hp => absurd (show p ∈ ([] : List (Addr × Obj)) from hp) (by simp), I3.hok.kept hk, ?_⟩
  · have e2' : (src.map fun o => match o with | some j => (σ[j]?).getD none | none => none)[i]? = some (some v) := e2
    rw [List.getElem?_map] at e2'
    cases q : src[i]? with
    | none => rw [q] at e2'; cases e2'
    | some o =>
      rw [q] at e2'
      cases o with
      | none => cases e2'
      | some j =>
        obtain ⟨x', hx1, hx2, hx3⟩ := S.src i j q
        have ex : x' = x := Option.some.inj (hx1.symm.trans e1)
        subst ex
        have ev : σ[j]? = some (some v) := by
          cases q2 : σ[j]? with
          | none => simp [q2] at e2'
          | some o => simp [q2] at e2'; rw [e2']
        obtain ⟨m, hn, hl⟩ := I3.loc
        have hkind := S.fr x' hx3
        obtain ⟨u, r, l⟩ := hl j x' v hx2 ev (by
          rcases hkind with z | z
          · exact .inr (.inl z)
          · exact .inr (.inr z))
        refine ⟨u, r, .inr ⟨?_, ?_⟩⟩
        · rcases e3 with z | z | z
          · exfalso
            have z' : (scope.names.map fun (n, k) => if (k == NameKind.free && X.env.scope.kind == .function && X.env.kindOf n == some .cell) then (n, NameKind.cell) else (n, k)).lookup x' = some .local := z
            rcases l with ⟨k, _⟩ | ⟨_, c, hc, hcell⟩
            · rcases hkind with y | y <;> (rw [y] at k; cases k)
            · exact (show False by
                have := S.names
                have hm := hx3
                clear e2 e2'
                have key : ∀ (names : List (Str × NameKind)), (names.map fun (n, k) => if (k == NameKind.free && X.env.scope.kind == .function && X.env.kindOf n == some .cell) then (n, NameKind.cell) else (n, k)).lookup x' = some .local →
                    names.lookup x' = some .local := by
                  intro names
                  induction names with
                  | nil => intro h; simp at h
                  | cons y r ih =>
                    obtain ⟨n, k⟩ := y
                    intro h
                    have h' : List.lookup x' ((if (k == NameKind.free && X.env.scope.kind == .function && X.env.kindOf n == some .cell) = true then (n, NameKind.cell) else (n, k)) :: (r.map fun (n, k) => if (k == NameKind.free && X.env.scope.kind == .function && X.env.kindOf n == some .cell) then (n, NameKind.cell) else (n, k))) = some .local := h
                    by_cases hx : (x' == n) = true
                    · by_cases hc2 : (k == NameKind.free && X.env.scope.kind == .function && X.env.kindOf n == some .cell) = true
                      · rw [if_pos hc2] at h'; simp only [List.lookup_cons, hx] at h'; cases h'
                      · rw [if_neg hc2] at h'; simp only [List.lookup_cons, hx] at h' ⊢; exact h'
                    · have hx' : (x' == n) = false := by simpa using hx
                      by_cases hc2 : (k == NameKind.free && X.env.scope.kind == .function && X.env.kindOf n == some .cell) = true
                      · rw [if_pos hc2] at h'; simp only [List.lookup_cons, hx'] at h' ⊢; exact ih h'
                      · rw [if_neg hc2] at h'; simp only [List.lookup_cons, hx'] at h' ⊢; exact ih h'
                have z2 := key _ z'
                obtain ⟨c2, hc2⟩ := hcl2 x' hx3
                exact S.excl x' hx3 z2)
          · exact .inl z
          · exact .inr z
        · rcases l with ⟨k, _⟩ | ⟨_, c, hc, hcell⟩
          · rcases hkind with y | y <;> (rw [y] at k; cases k)
          · obtain ⟨c2, hc2⟩ := hcl2 x' hx3
            have e := hcl1 x' c2 hc2
            rw [hc] at e; cases e
            obtain ⟨oc, ho, hd⟩ := hcell
            exact ⟨c, hc2, oc, hk c oc ho, hd⟩
  · obtain ⟨v, oc, ho, hd⟩ := I3.cell x c (hcl1 x c e)
    exact ⟨v, oc, hk c oc ho, hd⟩
  · show (src.map _).length = N'.length
    rw [List.length_map, S.len]

/-- what stands behind the block: the list is tracked, the block's names are let go -/
theorem comp_leave {cl : List (Str × Addr)} {C D : Addr} {fp : List Addr} {pins pinsY : List (Addr × Obj)} {σ σc : St} {H H' : Hp} {s3 s4 : Shared} {h' : Heap} {ys : List V} {us : List Value} (I3 : Inv X pins σ H s3) (hC : C = s3.heap.objs.size)
    (hf : ∀ b ∈ D :: fp, FpOk X pins H b) (hlt : ∀ b ∈ D :: fp, b < s3.heap.objs.size) (IY : Inv (compCx X N' scope cl C (D :: fp) s3 H) pinsY σc H' s4) (hD : H' D = none) (pl : s4.heap.PlainList D us.toArray) (rv : Vals ys us) (hz : ys.length ≤ sizeLine)
    (hs : Heap.SameBut C s4.heap h') : Inv X pins σ (upd H' D (.lst ys)) { s4 with heap := h' } := by
  have J : Inv X pins σ H' s4 := I3.call' IY.os IY.base IY.hok IY.bare (ch := D :: fp) fun b hb => ⟨(hf b hb).2.2.2.1, (hf b hb).2.1, (hf b hb).2.2.2.2.1, (hf b hb).2.2.2.2.2⟩
  have fC : FpOk X pins H' C := I3.fpOk (Nat.le_of_eq hC.symm) IY.free
  have J2 : Inv X pins σ H' { s4 with heap := h' } := J.turned (t' := s4.toks) (fun b o hb e => (hs.2 b hb).trans e) fC.1 fC.2.1 fC.2.2.2.1 fC.2.2.2.2.1 fC.2.2.2.2.2
  have hDC : D ≠ C := by rw [hC]; exact Nat.ne_of_lt (hlt D List.mem_cons_self)
  obtain ⟨n, e⟩ := pl
  have fD := hf D List.mem_cons_self
  exact J2.track ⟨hD, fD.2⟩ ⟨hz, us, n, rv, (hs.2 D hDC).trans e⟩

theorem comp_run {cl : List (Str × Addr)} {C D it : Addr} {fp : List Addr} {tn : Nat → Heap → Prop} {J : It} {pins : List (Addr × Obj)} {σ σ0 : St} {H : Hp} {s3 s4 : Shared} {R : Result → Shared → Prop} {W : Nat → Nat → List V → St → Hp → Prop} {m0 : Nat} {Q : List V → Hp → Prop}
    (hc : X.calm = true) (T : Turn X.prog X.w X.K tg J fp it tn) (I3 : Inv X pins σ H s3) (hC : C = s3.heap.objs.size)
    (hf : ∀ b ∈ D :: fp, FpOk X pins H b) (hlt : ∀ b ∈ D :: fp, b < s3.heap.objs.size) (hDf : D ∉ fp) (IY : Inv (compCx X N' scope cl C (D :: fp) s3 H) [] σ0 H s4) (st : tn 0 s4.heap) (pl : s4.heap.PlainList D #[])
    (hg : PG (compCx X N' scope cl C (D :: fp) s3 H) tg g) (ht : PTs (compCx X N' scope cl C (D :: fp) s3 H) ifs tt) (he : PE (compCx X N' scope cl C (D :: fp) s3 H) elt te) (w0 : W 0 m0 [] σ0 H)
    (turn : ∀ i m ys σc H, W i m ys σc H → (J.stop i H ∧ Q ys H) ∨ (J.go i H ∧ ys.length < sizeLine ∧ ∀ x H', J.yld i H x H' → g x σc H' fun σ2 H2 => tt σ2 H2 fun b H3 =>
      if b = true then te σ2 H3 fun v H4 => ∃ m', m' < m ∧ W (i + 1) m' (ys ++ [v]) σ2 H4 else ∃ m', m' < m ∧ W (i + 1) m' ys σ2 H3))
    (fin : ∀ s5 σc H' ys us pinsY, Inv (compCx X N' scope cl C (D :: fp) s3 H) pinsY σc H' s5 → H' D = none → s5.heap.PlainList D us.toArray → Vals ys us → ys.length ≤ sizeLine → Q ys H' → R (.ok .next) s5) :
    codeAny (model X.prog X.w) X.A (.compLoop (.ListComp elt [⟨tg, iter, ifs, 0⟩] scope pos) 0 (.ref it) (.ref D) (compEnvC scope cl C X.env)) R s4 := by
  have eY : (compCx X N' scope cl C (D :: fp) s3 H).env = compEnvC scope cl C X.env := rfl
  generalize hY : compCx X N' scope cl C (D :: fp) s3 H = Y at *
  have e1 : Y.prog = X.prog := by rw [← hY]; rfl
  have e2 : Y.w = X.w := by rw [← hY]; rfl
  have e3 : Y.K = X.K := by rw [← hY]; rfl
  have e4 : Y.A = X.A := by rw [← hY]; rfl
  have e5 : Y.calm = true := by rw [← hY]; exact hc
  have e6 : Y.xe = fun _ _ => False := by rw [← hY]; rfl
  have e7 : Y.env.locals = C := by rw [eY]; rfl
  have e8 : Y.ex = D :: fp := by rw [← hY]; rfl
  have e9 : Y.pn = [] := by rw [← hY]; rfl
  have e10 : Y.fs = frs X.stack := by rw [← hY]; rfl
  have e11 : ∀ x c, Y.env.cells.lookup x = some c → ∀ b ∈ D :: fp, c ≠ b := fun x c e b hb => (IY.ok.exf b (by rw [e8]; exact hb)).2 x c e
  have nst : ∀ b ∈ D :: fp, b ∉ Y.fs := fun b hb => IY.ok.exfs b (by rw [e8]; exact hb)
  have fpY : ∀ (pinsY : List (Addr × Obj)) (H' : Hp), (∀ p ∈ pinsY, p.1 = D) → ∀ b ∈ fp, H' b = none → FpOk Y pinsY H' b := fun pinsY H' hp b hb hn =>
    ⟨hn, by rw [e7, hC]; exact Nat.ne_of_lt (hlt b (List.mem_cons_of_mem _ hb)), nst b (List.mem_cons_of_mem _ hb), .inl (by rw [e8]; exact List.mem_cons_of_mem _ hb), fun x c e => e11 x c e b (List.mem_cons_of_mem _ hb), fun p hp' z => by
      rw [e9, List.nil_append] at hp'
      have q := hp p hp'
      rw [z] at q
      rw [q] at hb
      exact hDf hb⟩
  have fpD : ∀ (pinsY : List (Addr × Obj)) (H' : Hp), (∀ p ∈ pinsY, p.1 ≠ D) → H' D = none → FpOk Y pinsY H' D := fun pinsY H' hp hn =>
    ⟨hn, by rw [e7, hC]; exact Nat.ne_of_lt (hlt D List.mem_cons_self), nst D List.mem_cons_self, .inl (by rw [e8]; exact List.mem_cons_self), fun x c e => e11 x c e D List.mem_cons_self, fun p hp' => by
      rw [e9, List.nil_append] at hp'
      exact hp p hp'⟩
  have T' : Turn Y.prog Y.w Y.K tg J fp it tn := by rw [e1, e2, e3]; exact T
  rw [← eY, ← e1, ← e2, ← e4]
  refine compLoop_gen (fun n s' => ∃ i ys us σc H', Inv Y [] σc H' s' ∧ tn i s'.heap ∧ (∀ b ∈ fp, H' b = none) ∧ H' D = none ∧ s'.heap.PlainList D (us : List Value).toArray ∧ Vals ys us ∧ ys.length ≤ sizeLine ∧ W i n ys σc H') ?_ m0
    ⟨0, [], [], σ0, H, IY, st, fun b hb => (hf b (List.mem_cons_of_mem _ hb)).1, (hf D List.mem_cons_self).1, pl, .nil, Nat.zero_le _, w0⟩
  rintro n s5 ⟨i, ys, us, σc, H5, I5, st5, fr5, hD5, pl5, rv5, hz5, w5⟩
  obtain ⟨nn, hob⟩ := id pl5
  -- D is pinned as it stands
  have I5' : Inv Y [(D, { cls := .type "list", data := .seq us.toArray nn })] σc H5 s5 := I5.pins_of fun p hp => by
    rw [List.mem_singleton] at hp
    subst hp
    exact ⟨hob, hD5, by rw [e7, hC]; exact Nat.ne_of_lt (hlt D List.mem_cons_self), nst D List.mem_cons_self, fun v z => by
      have z' : Data.seq us.toArray nn = Data.cell v := z
      cases z'⟩
  have f5 : ∀ b ∈ fp, FpOk Y [(D, { cls := .type "list", data := .seq us.toArray nn })] H5 b := fun b hb => fpY _ _ (fun p hp => by rw [List.mem_singleton] at hp; rw [hp]) b hb (fr5 b hb)
  rcases turn i n ys σc H5 w5 with ⟨stop, q⟩ | ⟨go, hz, step⟩
  · refine thn (T'.done Y rfl rfl rfl e5 i _ s5 σc H5 (fun _ _ => False) I5' f5 st5 stop) fun r s6 ⟨hr, I6⟩ => ?_
    subst hr
    exact fin s6 σc H5 ys us _ I6 hD5 ⟨nn, (I6.pin (D, _) (List.mem_append_right _ List.mem_cons_self)).1⟩ rv5 hz5 q
  · refine thn (T'.item Y rfl rfl rfl e5 i _ s5 σc H5 (fun _ _ => False) I5' f5 st5 go) fun r s6 ⟨u, hr, h6⟩ => ?_
    subst hr
    refine thn h6 fun _ s7 ⟨x, H7, I7, r7, y7, st7, fr7⟩ => ?_
    have f7 : ∀ b ∈ fp, FpOk Y [(D, { cls := .type "list", data := .seq us.toArray nn })] H7 b := fun b hb => fpY _ _ (fun p hp => by rw [List.mem_singleton] at hp; rw [hp]) b hb (fr7 b hb)
    have I7' := I7.pinned f7 (T.obj _ _ st7)
    have hx := hg _ s7 σc H7 x u _ I7' r7 (step x H7 y7)
    rw [e6] at hx
    refine thn hx fun _ s8 ⟨σ8, H8, I8, q8⟩ => ?_
    have hx2 := ht _ s8 σ8 H8 _ I8 q8
    rw [e6] at hx2
    -- behind a turn: the records stand as they stood
    have keepT : ∀ {σ9 : St} {H9 : Hp} {s9 : Shared}, Inv Y ([(D, { cls := .type "list", data := .seq us.toArray nn })] ++ pinsAt fp s7.heap) σ9 H9 s9 → tn (i + 1) s9.heap ∧ (∀ b ∈ fp, H9 b = none) ∧ H9 D = none ∧ s9.heap.get? D = some { cls := .type "list", data := .seq us.toArray nn } := fun {σ9 H9 s9} I9 => by
      have pD := I9.pin (D, _) (List.mem_append_right _ (List.mem_append_left _ List.mem_cons_self))
      refine ⟨T.keep _ _ _ st7 fun b hb o e => (I9.pin (b, o) (List.mem_append_right _ (List.mem_append_right _ (mem_pinsAt hb e)))).1, fun b hb => ?_, pD.2.1, pD.1⟩
      obtain ⟨o, e, d⟩ := T.obj _ _ st7 b hb
      exact (I9.pin (b, o) (List.mem_append_right _ (List.mem_append_right _ (mem_pinsAt hb e)))).2.1
    refine thn hx2 fun ok s9 ⟨H9, I9, q9⟩ => ?_
    cases ok with
    | false =>
      rw [if_neg Bool.false_ne_true] at q9
      rw [if_neg Bool.false_ne_true]
      obtain ⟨m', hm, w9⟩ := q9
      obtain ⟨k1, k2, k3, k4⟩ := keepT I9
      exact ⟨m', hm, i + 1, ys, us, σ8, H9, I9.pins_of (fun p hp => nomatch hp), k1, k2, k3, ⟨nn, k4⟩, rv5, hz5, w9⟩
    | true =>
      rw [if_pos rfl] at q9
      rw [if_pos rfl]
      have hx3 := he _ s9 σ8 H9 _ I9 q9
      rw [e6] at hx3
      refine thn hx3 fun xv s10 ⟨v, H10, I10, r10, m', hm, w10⟩ => ?_
      obtain ⟨k1, k2, k3, k4⟩ := keepT I10
      have hl := rv5.length
      refine wpAny_list_append_plain ⟨nn, k4⟩ (fun h' pl' sb => ?_) (by rw [List.size_toArray]; omega)
      have fD := fpD [] H10 (fun p hp => nomatch hp) k3
      have I11 : Inv Y [] σ8 H10 { s10 with heap := h' } := (I10.pins_of (pins' := []) fun p hp => nomatch hp).turned (t' := s10.toks) (fun b o hb e => (sb.2 b hb).trans e) fD.1 fD.2.1 fD.2.2.2.1 fD.2.2.2.2.1 fD.2.2.2.2.2
      refine ⟨m', hm, i + 1, ys ++ [v], us ++ [xv], σ8, H10, I11, T.keep _ _ _ k1 (fun b hb o e => (sb.2 b ?_).trans e), k2, k3, ?_, rv5.append (.cons r10 .nil), ?_, w10⟩
      · intro z; rw [z] at hb; exact hDf hb
      · rw [show (us ++ [xv]).toArray = us.toArray.push xv by simp]; exact pl'
      · rw [List.length_append, List.length_singleton]; exact hz

/-- [elt for tg in iter if ..] -/
theorem pe_comp (hc : X.calm = true) (S : CompScope X scope N' src) (hi : PI X tg iter wi)
    (hb : ∀ cl C ex s0 H0, PG (compCx X N' scope cl C ex s0 H0) tg g ∧ PTs (compCx X N' scope cl C ex s0 H0) ifs tt ∧ PE (compCx X N' scope cl C ex s0 H0) elt te)
    (hs : ∀ x, foldedSetIterable iter X.env x = pure x := by intro _; rfl) : PE X (.ListComp elt [⟨tg, iter, ifs, 0⟩] scope pos) (tComp src wi g tt te) := by
  intro pins s σ H Q I h
  obtain ⟨cl, hclos, hcl1, hcl2⟩ := closure_ok (scope := scope) (env := X.env) fun n hn => I.ok.has n (S.fr n hn)
  rw [eval_ListComp]
  refine wpAny_comprehension_free (use := none) rfl hs hclos S.kind S.names ?_
  refine thn (hi pins s σ H _ I h) fun v s1 h1 => thn h1 fun itv s2 h2 => ?_
  obtain ⟨it, fp, tn, J, H2, e, I2, T, st2, f2, W, ⟨m0, w0⟩, turn⟩ := h2
  subst e
  refine wpAny_newObj_type (wpAny_newFunctionEnv S.cell (by intro y hy; simp at hy) (fun h₁ hns₁ hsb₁ => ?_) S.kind)
  dsimp only at hns₁ hsb₁ ⊢
  generalize hH3 : s2.heap.push { cls := .type "list", dict := none, data := .seq ([] : List Value).toArray } = H3 at hns₁ hsb₁ ⊢
  have hsz : H3.objs.size = s2.heap.objs.size + 1 := by rw [← hH3, Heap.size_push]
  have I3 : Inv X pins σ H2 { s2 with heap := H3 } := I2.kept (t' := s2.toks) fun b o e => by rw [← hH3]; exact Heap.get?_push_of_some _ e
  have fD : FpOk X pins H2 s2.heap.objs.size := I2.fpOk (Nat.le_refl _) (I2.hok.fresh (Nat.le_refl _))
  have hDf : s2.heap.objs.size ∉ fp := fun hm => by
    obtain ⟨o, e, _⟩ := T.obj 0 _ st2 _ hm
    exact Nat.lt_irrefl _ (Heap.lt_size e)
  have hf : ∀ b ∈ s2.heap.objs.size :: fp, FpOk X pins H2 b := fun b hb => by
    rcases List.mem_cons.mp hb with z | z
    · rw [z]; exact fD
    · exact f2 b z
  have hlt : ∀ b ∈ s2.heap.objs.size :: fp, b < H3.objs.size := fun b hb => by
    rcases List.mem_cons.mp hb with z | z
    · rw [z, hsz]; exact Nat.lt_succ_self _
    · obtain ⟨o, e, _⟩ := T.obj 0 _ st2 b z
      rw [hsz]; exact Nat.lt_succ_of_lt (Heap.lt_size e)
  have kp : ∀ b o, H3.get? b = some o → h₁.get? b = some o := fun b o e => hsb₁.extBut b o (Nat.ne_of_lt (Heap.lt_size e)) (Heap.get?_push_of_some _ e)
  have kp0 : ∀ b o, s2.heap.get? b = some o → h₁.get? b = some o := fun b o e => kp b o (by rw [← hH3]; exact Heap.get?_push_of_some _ e)
  have hacc : h₁.PlainList s2.heap.objs.size #[] := ⟨_, kp _ _ (by rw [← hH3]; exact Heap.get?_push_size _ rfl)⟩
  have st1 : tn 0 h₁ := T.keep _ _ _ st2 fun b _ o e => kp0 b o e
  have IY := comp_enter (N' := N') (src := src) (scope := scope) (cl := cl) (C := H3.objs.size) (D := s2.heap.objs.size) (fp := fp) (s3 := { s2 with heap := H3 }) (h1 := h₁) (tk := s2.toks) S I3 hcl1 hcl2 rfl hf hlt hns₁ kp
  obtain ⟨hg, ht, he⟩ := hb cl H3.objs.size (s2.heap.objs.size :: fp) { s2 with heap := H3 } H2
  have loop := comp_run (R := compPost (model X.prog X.w) X.A X.xe none (EP X pins σ Q) (.ref s2.heap.objs.size) H3.objs.size) (elt := elt) (iter := iter) (ifs := ifs) (pos := pos) (Q := fun ys H => ∀ l, H l = none → Q (.ref l) (upd H l (.lst ys)))
    hc T I3 rfl hf hlt hDf IY st1 hacc hg ht he w0 turn (fun s5 σc H' ys us pinsY IY5 hD pl rv hz q => by
      obtain ⟨m, hn, _⟩ := IY5.loc
      refine ⟨m, hn, fun h' hs' => ⟨.ref s2.heap.objs.size, upd H' s2.heap.objs.size (.lst ys), ?_, rfl, q _ hD⟩⟩
      exact comp_leave I3 rfl hf hlt IY5 hD pl rv hz hs')
  exact codeAny_compStart_list loop (T.self _ 0 _ _ _ st1 loop)
end
end L2

set_option Elab.async false
set_option linter.all false
set_option maxRecDepth 100000
set_option maxHeartbeats 4000000
namespace L2
open PySem PySem.Spec PyProof.Rows

/-! ### a text, sign by sign -/
section
variable {X : Cx} {tg : Expr}

/-! ### comparisons of texts -/

/-! ### a slice of a text -/

/-! ### isinstance by a built-in class -/
theorem call_isinst : CallR X (.builtin "isinstance") (fun xs H Q => ∃ x T ty b, xs = [x, .ty T] ∧ TyOf X.K H x ty ∧ PySem.W.kitOne X.K ty (.type T) = some b ∧ Q (.bl b) H) := by
  intro pins s σ H xs us Q I r h
  obtain ⟨x, T, ty, b, rfl, h1, h2, q⟩ := h
  obtain ⟨u, w', rfl, rx, rT⟩ := vals2 r
  cases (show w' = Value.type T from rT)
  exact isinst_ok I rx h1 h2 fun tk => ⟨.bl b, H, I.tok _, rfl, q⟩

/-! ### all, any of a list of truths -/

/-! ### == of two lists of flat items -/
def eqVs (xs ys : List V) : Bool := xs.length == ys.length && (List.range xs.length).all fun j => eqV (xs.getD j .non) (ys.getD j .non)
end
end L2

set_option Elab.async false
set_option linter.all false
set_option maxRecDepth 100000
set_option maxHeartbeats 4000000
namespace L2
open PySem PySem.Spec PyProof.Rows
section
variable {X : Cx} {elt tg iter : Expr} {ifs : List Expr} {scope : Scope} {pos : Pos} {N' : List Str} {src : List (Option Nat)} {wi : TI} {g : TG} {tt : TT} {te : TE}
/-- x = [elt for tg in iter if ..], the name a plain local -/
theorem ps_setComp {i : Nat} {x : Str} {pos' spos : Pos} (hc : X.calm = true) (hN : X.N.Nodup) (hix : X.N[i]? = some x) (hx : Loc X.env.scope x) (S : CompScope X scope N' src) (hi : PI X tg iter wi)
    (hb : ∀ cl C ex s0 H0, PG (compCx X N' scope cl C ex s0 H0) tg g ∧ PTs (compCx X N' scope cl C ex s0 H0) ifs tt ∧ PE (compCx X N' scope cl C ex s0 H0) elt te)
    (hsw : swapsWith (.ListComp elt [⟨tg, iter, ifs, 0⟩] scope pos) (some (.Name x pos')) spos.line X.env = pure true := by rfl)
    (hs : ∀ x, foldedSetIterable iter X.env x = pure x := by intro _; rfl)
    (hfn : X.fn x = true ∨ X.env.scope.names.lookup x = some .local := by first | exact .inl rfl | exact .inr rfl | assumption) :
    PS X (.Assign [.Name x pos'] (.ListComp elt [⟨tg, iter, ifs, 0⟩] scope pos) spos) (tAsg (tComp src wi g tt te) (gName i)) := by
  intro pins s σ H D I h
  obtain ⟨cl, hclos, hcl1, hcl2⟩ := closure_ok (scope := scope) (env := X.env) fun n hn => I.ok.has n (S.fr n hn)
  rw [exec_Assign_Name_used _ _ _ _ hsw]
  refine wpAny_bind (wpAny_standAt (wpAny_bind ?_))
  show wpAny _ _ (do let _ ← comprehension (.ListComp elt [⟨tg, iter, ifs, 0⟩] scope pos) scope X.env _ (newList []) false (eval iter X.env) (some (assign (.Name x pos') X.env))) _ _ s
  refine wpAny_bind (wpAny_mono (wpAny_comprehension_free (use := some (assign (.Name x pos') X.env)) (Q := fun _ s' => SP X pins D .next s') rfl hs hclos S.kind S.names ?_) (fun _ s' hq => wpAny_pure (wpAny_pure hq)) fun _ _ e => e)
  refine thn (hi pins s σ H _ I h) fun v s1 h1 => thn h1 fun itv s2 h2 => ?_
  obtain ⟨it, fp, tn, J, H2, e, I2, T, st2, f2, W, ⟨m0, w0⟩, turn⟩ := h2
  subst e
  refine wpAny_newObj_type (wpAny_newFunctionEnv S.cell (by intro y hy; simp at hy) (fun h₁ hns₁ hsb₁ => ?_) S.kind)
  dsimp only at hns₁ hsb₁ ⊢
  generalize hH3 : s2.heap.push { cls := .type "list", dict := none, data := .seq ([] : List Value).toArray } = H3 at hns₁ hsb₁ ⊢
  have hsz : H3.objs.size = s2.heap.objs.size + 1 := by rw [← hH3, Heap.size_push]
  have I3 : Inv X pins σ H2 { s2 with heap := H3 } := I2.kept (t' := s2.toks) fun b o e => by rw [← hH3]; exact Heap.get?_push_of_some _ e
  have fD : FpOk X pins H2 s2.heap.objs.size := I2.fpOk (Nat.le_refl _) (I2.hok.fresh (Nat.le_refl _))
  have hDf : s2.heap.objs.size ∉ fp := fun hm => by
    obtain ⟨o, e, _⟩ := T.obj 0 _ st2 _ hm
    exact Nat.lt_irrefl _ (Heap.lt_size e)
  have hf : ∀ b ∈ s2.heap.objs.size :: fp, FpOk X pins H2 b := fun b hb => by
    rcases List.mem_cons.mp hb with z | z
    · rw [z]; exact fD
    · exact f2 b z
  have hlt : ∀ b ∈ s2.heap.objs.size :: fp, b < H3.objs.size := fun b hb => by
    rcases List.mem_cons.mp hb with z | z
    · rw [z, hsz]; exact Nat.lt_succ_self _
    · obtain ⟨o, e, _⟩ := T.obj 0 _ st2 b z
      rw [hsz]; exact Nat.lt_succ_of_lt (Heap.lt_size e)
  have kp : ∀ b o, H3.get? b = some o → h₁.get? b = some o := fun b o e => hsb₁.extBut b o (Nat.ne_of_lt (Heap.lt_size e)) (Heap.get?_push_of_some _ e)
  have kp0 : ∀ b o, s2.heap.get? b = some o → h₁.get? b = some o := fun b o e => kp b o (by rw [← hH3]; exact Heap.get?_push_of_some _ e)
  have hacc : h₁.PlainList s2.heap.objs.size #[] := ⟨_, kp _ _ (by rw [← hH3]; exact Heap.get?_push_size _ rfl)⟩
  have st1 : tn 0 h₁ := T.keep _ _ _ st2 fun b _ o e => kp0 b o e
  have IY := comp_enter (N' := N') (src := src) (scope := scope) (cl := cl) (C := H3.objs.size) (D := s2.heap.objs.size) (fp := fp) (s3 := { s2 with heap := H3 }) (h1 := h₁) (tk := s2.toks) S I3 hcl1 hcl2 rfl hf hlt hns₁ kp
  obtain ⟨hg, ht, he⟩ := hb cl H3.objs.size (s2.heap.objs.size :: fp) { s2 with heap := H3 } H2
  have loop := comp_run (R := compPost (model X.prog X.w) X.A X.xe (some (assign (.Name x pos') X.env)) (fun _ s' => SP X pins D .next s') (.ref s2.heap.objs.size) H3.objs.size) (elt := elt) (iter := iter) (ifs := ifs) (pos := pos) (Q := fun ys H => ∀ l, H l = none → D.nx (σ.set i (some (.ref l))) (upd H l (.lst ys)))
    hc T I3 rfl hf hlt hDf IY st1 hacc hg ht he w0 turn (fun s5 σc H' ys us pinsY IY5 hD pl rv hz q => by
      have IX : Inv X pins σ (upd H' s2.heap.objs.size (.lst ys)) s5 := comp_leave (h' := s5.heap) I3 rfl hf hlt IY5 hD pl rv hz (.refl ..)
      show wpAny _ _ (assign (.Name x pos') X.env (.ref s2.heap.objs.size)) _ _ s5
      refine wpAny_assign_Name (store_ok2 (v := .ref s2.heap.objs.size) IX hN hix hx rfl (fun s6 I6 ⟨a, sb, ha⟩ => ?_) hfn)
      obtain ⟨m, hn, _⟩ := IY5.loc
      have fC : FpOk X pins (upd H' s2.heap.objs.size (.lst ys)) H3.objs.size := I3.fpOk (Nat.le_refl _) (by
        rw [upd_ne (by rw [hsz]; exact Nat.ne_of_gt (Nat.lt_succ_self _))]
        exact IY5.free)
      have hCa : H3.objs.size ≠ a := by
        rcases ha with z | z
        · rw [z]; exact fC.2.1
        · exact fun q => fC.2.2.2.2.1 x a z q.symm
      refine ⟨m, hn.sameBut sb hCa, fun h' hs' => ⟨_, _, I6.turned (t' := s6.toks) (fun b o hb e => (hs'.2 b hb).trans e) fC.1 fC.2.1 fC.2.2.2.1 fC.2.2.2.2.1 fC.2.2.2.2.2, q _ hD⟩⟩)
  exact codeAny_compStart_list loop (T.self _ 0 _ _ _ st1 loop)
end
end L2

set_option Elab.async false
set_option linter.all false
set_option maxRecDepth 100000
set_option maxHeartbeats 4000000
namespace L2
open PySem PySem.Spec PyProof.Rows
section
variable {X : Cx}
/-- // by a positive divisor below 2^64 -/
def CDivL (_ j : Int) : Prop := 0 < j ∧ j < 18446744073709551616
theorem op_fdivL : OpR X (binaryOp .FloorDiv) (rI CDivL fun i j => .int (i / j)) := opI fun i j _ _ _ _ _ hc q => by
  have h1 : (0 : Int) < j := hc.1
  have h2 : j < 18446744073709551616 := hc.2
  refine floordiv_int (by omega) (by rw [Int.fdiv_eq_ediv_of_nonneg i (by omega)]; exact q) (.inl (PyProof.noPylong_of_log2 ?_))
  have h64 : j.natAbs.log2 < 64 := (Nat.log2_lt (by omega)).mpr (by omega)
  omega
/-- != of two lists of flat items -/
theorem op_ne_list (hu : X.A.units < cLine) : OpR X (compareOp .NotEq) (fun x y H Q => ∃ a b xs ys, x = .ref a ∧ y = .ref b ∧ SqL X.K H a xs ∧ SqL X.K H b ys ∧ xs.all flatV = true ∧ ys.all flatV = true ∧ Q (.bl (!eqVs xs ys)) H) := by
  intro pins s σ H x y v u Q I rx ry h
  obtain ⟨a, b, xs, ys, rfl, rfl, hx, hy, fx, fy, q⟩ := h
  cases rx
  cases ry
  obtain ⟨its, r, pl, hz⟩ := I.list hx
  obtain ⟨its2, r2, pl2, hz2⟩ := I.list hy
  have hl := r.length
  have hl2 := r2.length
  by_cases hs : xs.length = ys.length
  · refine SeqAt.RcNeAt.lists (e := fun j => eqV (xs.getD j .non) (ys.getD j .non)) pl.isList pl2.isList (by simp only [List.size_toArray]; omega) hu (fun j h1 h2 => ?_) X.prog X.w _ _ ?_
    · simp only [List.size_toArray] at h1 h2
      have g1 : xs[j]? = some xs[j] := List.getElem?_eq_getElem (by omega)
      have g2 : ys[j]? = some ys[j] := List.getElem?_eq_getElem (by omega)
      obtain ⟨u1, e1, ru1⟩ := r.get g1
      obtain ⟨u2, e2, ru2⟩ := r2.get g2
      have k1 : its.toArray[j] = u1 := by
        have : its[j]? = some its[j] := List.getElem?_eq_getElem h1
        rw [e1] at this
        simpa using (Option.some.inj this).symm
      have k2 : its2.toArray[j] = u2 := by
        have : its2[j]? = some its2[j] := List.getElem?_eq_getElem h2
        rw [e2] at this
        simpa using (Option.some.inj this).symm
      rw [k1, k2, show xs.getD j .non = xs[j] by simp [List.getD, g1], show ys.getD j .non = ys[j] by simp [List.getD, g2]]
      exact eqAt_V ru1 ru2 (List.all_eq_true.mp fx _ (List.getElem_mem _)) (List.all_eq_true.mp fy _ (List.getElem_mem _))
    · refine fin_bl I q ?_
      unfold eqVs
      rw [List.size_toArray, ← hl, hs]
      simp
  · refine SeqAt.RcNeAt.lists_lengths pl.isList pl2.isList (by simp only [List.size_toArray, bne_iff_ne]; omega) hu X.prog X.w _ _ ?_
    refine fin_bl I q ?_
    unfold eqVs
    rw [beq_eq_false_iff_ne.mpr hs]
    rfl
end
end L2

set_option Elab.async false
set_option linter.all false
set_option maxRecDepth 100000
set_option maxHeartbeats 4000000
namespace L2
open PySem PySem.Spec PyProof.Rows
/-- a cut: what holds behind the statement, then the rest once -/
def tCut (t u : TS) : TS := fun D σ H => ∃ Pv : St → Hp → Prop, t { D with nx := Pv } σ H ∧ ∀ σ' H', Pv σ' H' → u D σ' H'
section
variable {X : Cx} {st : Stmt} {rest : List Stmt} {t u : TS}
theorem pss_cut (h1 : PS X st t) (h2 : PSs X rest u) : PSs X (st :: rest) (tCut t u) := by
  intro pins s σ H D I h
  obtain ⟨Pv, h, hr⟩ := h
  refine wpAny_execs_cons (thn (h1 pins s σ H { D with nx := Pv } I h) fun f s1 q => ?_)
  cases f with
  | next =>
    obtain ⟨σ', H', I', q⟩ := q
    exact h2 pins s1 σ' H' D I' (hr σ' H' q)
  | ret v => exact q
  | brk => exact q
  | cont => exact q
end
/-! a comprehension's scope, by one look -/
def compLook (kindOf : Str → Option NameKind) (XN : List Str) (scope : Scope) (N' : List Str) (src : List (Option Nat)) : Bool :=
  (scope.kind == .function) && (scope.names.all fun y => (y.2 != .cell) && (y.2 != .local || scope.names.lookup y.1 == some .local) && (y.2 != .free || ((kindOf y.1 == some .cell || kindOf y.1 == some .free) && scope.names.lookup y.1 != some .local))) &&
  (N'.length == src.length) && ((List.range src.length).all fun i => match src[i]? with
    | some (some j) => (match N'[i]?, XN[j]? with | some x, some y => x == y && scope.names.contains (x, NameKind.free) | _, _ => false)
    | _ => true)
theorem compScope_of {X : Cx} {scope : Scope} {N' : List Str} {src : List (Option Nat)} (sc : Scope) (hsc : X.env.scope = sc) (N : List Str) (hN : X.N = N) (h : compLook (fun x => sc.names.lookup x) N scope N' src = true) : CompScope X scope N' src := by
  subst hsc hN
  unfold compLook at h
  simp only [Bool.and_eq_true, List.all_eq_true, beq_iff_eq, bne_iff_ne, ne_eq, Bool.or_eq_true] at h
  obtain ⟨⟨⟨h1, h2⟩, h3⟩, h4⟩ := h
  refine ⟨h1, fun y hy => (h2 y hy).1.1, fun y hy hl => ?_, fun n hn => ?_, fun n hn => ?_, h3, fun i j e => ?_⟩
  · rcases (h2 y hy).1.2 with z | z
    · exact absurd hl z
    · exact z
  · rcases (h2 _ hn).2 with z | z
    · exact absurd rfl z
    · exact z.1
  · rcases (h2 _ hn).2 with z | z
    · exact absurd rfl z
    · exact z.2
  · have hi : i < src.length := (List.getElem?_eq_some_iff.mp e).1
    have q := h4 i (List.mem_range.mpr hi)
    rw [e] at q
    dsimp only at q
    cases e1 : N'[i]? with
    | none => rw [e1] at q; cases q
    | some x =>
      cases e2 : X.N[j]? with
      | none => rw [e1, e2] at q; cases q
      | some y =>
        rw [e1, e2] at q
        simp only [Bool.and_eq_true, beq_iff_eq] at q
        obtain ⟨rfl, q⟩ := q
        exact ⟨x, rfl, rfl, by simpa using q⟩
/-! the two usual comprehensions -/
def Nx (N i : Nat) (P : Prop) : Prop := ∃ m', m' < N - i ∧ m' = N - (i + 1) ∧ i + 1 ≤ N ∧ P
theorem nx {N i : Nat} {P : Prop} (h : i < N) (p : P) : Nx N i P := ⟨_, by omega, rfl, h, p⟩
section
variable {x : Str} {σ0 : St} {H : Hp} {g : TG} {tt : TT} {te : TE} {Q : List V → Hp → Prop}
theorem comp_range {lo : Int} {n : Nat} (Pv : Nat → List V → St → Hp → Prop) (h0 : Pv 0 [] σ0 H)
    (hs : ∀ i ys σc H, i < n → Pv i ys σc H → ys.length < sizeLine ∧ g (.int (lo + i)) σc H fun σ2 H2 => tt σ2 H2 fun b H3 =>
      if b = true then te σ2 H3 fun v H4 => Nx n i (Pv (i + 1) (ys ++ [v]) σ2 H4) else Nx n i (Pv (i + 1) ys σ2 H3))
    (hd : ∀ ys σc H, Pv n ys σc H → Q ys H) :
    ∃ W : Nat → Nat → List V → St → Hp → Prop, (∃ m, W 0 m [] σ0 H) ∧ ∀ i m ys σc H, W i m ys σc H →
      ((Itr lo n).stop i H ∧ Q ys H) ∨ ((Itr lo n).go i H ∧ ys.length < sizeLine ∧ ∀ v H', (Itr lo n).yld i H v H' → g v σc H' fun σ2 H2 => tt σ2 H2 fun b H3 =>
        if b = true then te σ2 H3 fun v H4 => ∃ m', m' < m ∧ W (i + 1) m' (ys ++ [v]) σ2 H4 else ∃ m', m' < m ∧ W (i + 1) m' ys σ2 H3) := by
  refine ⟨fun i m ys σc H => m = n - i ∧ i ≤ n ∧ Pv i ys σc H, ⟨_, rfl, Nat.zero_le _, h0⟩, ?_⟩
  rintro i m ys σc H ⟨rfl, hi, p⟩
  by_cases hlt : i < n
  · obtain ⟨z, _⟩ := hs i ys σc H hlt p
    refine .inr ⟨hlt, z, fun v H' y => ?_⟩
    obtain ⟨e, ev⟩ := y
    subst e ev
    exact (hs i ys σc _ hlt p).2
  · have e : i = n := by omega
    subst e
    exact .inl ⟨Nat.le_refl _, hd ys σc H p⟩
end
theorem same_upd {H : Hp} {a : Addr} {o : HO} (h : H a = none) : Same H (upd H a o) := fun b u e => by rw [upd_ne (ne_of_none e h)]; exact e
theorem at_mod {α : Type} {xs : List α} (h : 0 < xs.length) (i : Int) : ∃ v, v ∈ xs ∧ atI xs (i % (xs.length : Int)) = some v := by
  have h0 : 0 ≤ i % (xs.length : Int) := Int.emod_nonneg _ (by omega)
  have h1 : i % (xs.length : Int) < xs.length := Int.emod_lt_of_pos _ (by omega)
  obtain ⟨j, hj⟩ := Int.eq_ofNat_of_zero_le h0
  have hl : j < xs.length := by omega
  refine ⟨xs[j], List.getElem_mem hl, ?_⟩
  rw [hj]
  exact atI_nat (List.getElem?_eq_getElem hl)
theorem at_in {α : Type} {xs : List α} {i : Int} (h0 : 0 ≤ i) (h1 : i < xs.length) : ∃ v, v ∈ xs ∧ atI xs i = some v := by
  obtain ⟨j, hj⟩ := Int.eq_ofNat_of_zero_le h0
  have hl : j < xs.length := by omega
  refine ⟨xs[j], List.getElem_mem hl, ?_⟩
  rw [hj]
  exact atI_nat (List.getElem?_eq_getElem hl)

/-! argument lists, item by item, whatever stands behind -/
section
variable {X : Cx} {es : List Expr} {te : TE} {t : TA}
theorem pa_k {c : Const} {j : Nat} {p : Pos} (h : PE X (.Constant c j p) te) (hr : PA X es t) : PA X (.Constant c j p :: es) (tCons te t) := pa_cons h hr rfl
theorem pa_n {x : Str} {p : Pos} (h : PE X (.Name x p) te) (hr : PA X es t) : PA X (.Name x p :: es) (tCons te t) := pa_cons h hr rfl
theorem pa_t {xs : List Expr} {j : Nat} {p : Pos} (h : PE X (.Tuple xs j p) te) (hr : PA X es t) : PA X (.Tuple xs j p :: es) (tCons te t) := pa_cons h hr rfl
theorem pa_c {f : Expr} {xs : List Expr} {ks : List Keyword} {p : Pos} (h : PE X (.Call f xs ks p) te) (hr : PA X es t) : PA X (.Call f xs ks p :: es) (tCons te t) := pa_cons h hr rfl
end
/-- the value of a written constant -/
def constV : Expr → Option V
  | .Constant (.int i) _ _ => some (.int i)
  | .Constant (.str x) _ _ => some (.str x)
  | .Constant (.bool b) _ _ => some (.bl b)
  | .Constant .none _ _ => some .non
  | _ => none
theorem pa_consts {X : Cx} : ∀ {es : List Expr} {vs : List V}, es.map constV = vs.map some → PA X es (fun _ H Q => Q vs H)
  | [], [], _ => pa_nil
  | [], v :: vs, h => by cases h
  | e :: es, [], h => by cases h
  | e :: es, v :: vs, h => by
    rw [List.map_cons, List.map_cons] at h
    injection h with h1 h2
    have ih := pa_consts (X := X) h2
    cases e with
    | Constant c j p =>
      cases c with
      | int i => cases h1; exact pa_k pe_int ih
      | str x => cases h1; exact pa_k pe_str ih
      | bool b => cases h1; exact pa_k pe_bl ih
      | none => cases h1; exact pa_k pe_non ih
      | _ => cases h1
    | _ => cases h1
theorem nd1 (x : Str) : [x].Nodup := by simp
end L2

set_option Elab.async false
set_option linter.all false
set_option maxRecDepth 100000
set_option maxHeartbeats 4000000
namespace L2
open PySem PySem.Spec PyProof.Rows
section
variable {K : PySem.W.Frag} {a : Addr} {xs : List V} {σ0 : St} {H : Hp} {g : TG} {tt : TT} {te : TE} {Q : List V → Hp → Prop}
/-- a comprehension over a tuple -/
theorem comp_tup (Pv : Nat → List V → St → Hp → Prop) (h0 : Pv 0 [] σ0 H) (hl : ∀ i ys σc H, Pv i ys σc H → SqT K H a xs)
    (hs : ∀ i x ys σc H, xs[i]? = some x → i < xs.length → Pv i ys σc H → ys.length < sizeLine ∧ g x σc H fun σ2 H2 => tt σ2 H2 fun b H3 =>
      if b = true then te σ2 H3 fun v H4 => Nx xs.length i (Pv (i + 1) (ys ++ [v]) σ2 H4) else Nx xs.length i (Pv (i + 1) ys σ2 H3))
    (hd : ∀ ys σc H, Pv xs.length ys σc H → Q ys H) :
    ∃ W : Nat → Nat → List V → St → Hp → Prop, (∃ m, W 0 m [] σ0 H) ∧ ∀ i m ys σc H, W i m ys σc H →
      ((Itt K a).stop i H ∧ Q ys H) ∨ ((Itt K a).go i H ∧ ys.length < sizeLine ∧ ∀ v H', (Itt K a).yld i H v H' → g v σc H' fun σ2 H2 => tt σ2 H2 fun b H3 =>
        if b = true then te σ2 H3 fun v H4 => ∃ m', m' < m ∧ W (i + 1) m' (ys ++ [v]) σ2 H4 else ∃ m', m' < m ∧ W (i + 1) m' ys σ2 H3) := by
  refine ⟨fun i m ys σc H => m = xs.length - i ∧ i ≤ xs.length ∧ Pv i ys σc H, ⟨_, rfl, Nat.zero_le _, h0⟩, ?_⟩
  rintro i m ys σc H ⟨rfl, hi, p⟩
  have q := hl i ys σc H p
  by_cases hlt : i < xs.length
  · have hx : xs[i]? = some xs[i] := List.getElem?_eq_getElem hlt
    obtain ⟨z, _⟩ := hs i _ ys σc H hx hlt p
    refine .inr ⟨⟨xs, xs[i], q, hx⟩, z, fun v H' y => ?_⟩
    obtain ⟨e, y⟩ := y
    subst e
    exact (hs i v ys σc _ (y xs q) hlt p).2
  · have e : i = xs.length := by omega
    subst e
    exact .inl ⟨⟨xs, q, Nat.le_refl _⟩, hd ys σc H p⟩
/-- a comprehension over a list that the block leaves as it is -/
theorem comp_list (Pv : Nat → List V → St → Hp → Prop) (h0 : Pv 0 [] σ0 H) (hl : ∀ i ys σc H, Pv i ys σc H → SqL K H a xs)
    (hs : ∀ i x ys σc H, xs[i]? = some x → i < xs.length → Pv i ys σc H → ys.length < sizeLine ∧ g x σc H fun σ2 H2 => tt σ2 H2 fun b H3 =>
      if b = true then te σ2 H3 fun v H4 => Nx xs.length i (Pv (i + 1) (ys ++ [v]) σ2 H4) else Nx xs.length i (Pv (i + 1) ys σ2 H3))
    (hd : ∀ ys σc H, Pv xs.length ys σc H → Q ys H) :
    ∃ W : Nat → Nat → List V → St → Hp → Prop, (∃ m, W 0 m [] σ0 H) ∧ ∀ i m ys σc H, W i m ys σc H →
      ((Itl K a).stop i H ∧ Q ys H) ∨ ((Itl K a).go i H ∧ ys.length < sizeLine ∧ ∀ v H', (Itl K a).yld i H v H' → g v σc H' fun σ2 H2 => tt σ2 H2 fun b H3 =>
        if b = true then te σ2 H3 fun v H4 => ∃ m', m' < m ∧ W (i + 1) m' (ys ++ [v]) σ2 H4 else ∃ m', m' < m ∧ W (i + 1) m' ys σ2 H3) := by
  refine ⟨fun i m ys σc H => m = xs.length - i ∧ i ≤ xs.length ∧ Pv i ys σc H, ⟨_, rfl, Nat.zero_le _, h0⟩, ?_⟩
  rintro i m ys σc H ⟨rfl, hi, p⟩
  have q := hl i ys σc H p
  by_cases hlt : i < xs.length
  · have hx : xs[i]? = some xs[i] := List.getElem?_eq_getElem hlt
    obtain ⟨z, _⟩ := hs i _ ys σc H hx hlt p
    refine .inr ⟨⟨xs, xs[i], q, hx⟩, z, fun v H' y => ?_⟩
    obtain ⟨e, y⟩ := y
    subst e
    exact (hs i v ys σc _ (y xs q) hlt p).2
  · have e : i = xs.length := by omega
    subst e
    exact .inl ⟨⟨xs, q, Nat.le_refl _⟩, hd ys σc H p⟩
end
/-- isinstance, the written part named (within a block: K is the same for all blocks) -/
theorem call_isinstK {X : Cx} {K : PySem.W.Frag} (hK : X.K = K) : CallR X (.builtin "isinstance") (fun xs H Q => ∃ x T ty b, xs = [x, .ty T] ∧ TyOf K H x ty ∧ PySem.W.kitOne K ty (.type T) = some b ∧ Q (.bl b) H) := by
  subst hK
  exact call_isinst
/-- xs[::-1] of a list (the step's value is -1) -/
theorem pe_rev {X : Cx} {e st : Expr} {te ts : TE} {pos p2 : Pos} (he : PE X e te) (hst : PE X st ts) : PE X (.Subscript e (.Slice none none (some st) p2) pos)
    (fun σ H Q => te σ H fun x H1 => ts σ H1 fun y H2 => y = .int (-1) ∧ ∃ a xs, x = .ref a ∧ SqL X.K H2 a xs ∧ ∀ p, H2 p = none → Q (.ref p) (upd H2 p (.lst xs.reverse))) := by
  intro pins s σ H Q I h
  refine Subscript_ (thn (he pins s σ H _ I h) fun v s1 ⟨x, H1, I1, r1, q1⟩ => ?_)
  refine wpAny_Slice ?_
  rw [evalPart_none]
  refine wpAny_pure (wpAny_pure ?_)
  rw [evalPart_some]
  refine thn (hst pins s1 σ H1 _ I1 q1) fun vs s3 ⟨y, H3, I3, ry, ey, a, xs, ex, hx, q⟩ => ?_
  subst ey ex
  cases r1
  obtain ⟨t, rfl⟩ := ry
  have I4 : Inv X pins σ H3 { s3 with heap := s3.heap.push { cls := .type "slice", data := .fields #[.none, .none, .int (-1) t] } } := I3.kept (t' := s3.toks) fun b ob q => Heap.get?_push_of_some _ q
  obtain ⟨its, r, ht, hz⟩ := I4.list hx
  have hlen := r.length
  refine tail_any (ops := [.ref a, .ref s3.heap.objs.size]) ht.isList.typeIs slot_list_getitem.lookup (wpAny_getItem_list_slice ht.isList (Heap.IsSliceOf.new ..) .none .none (.int (-1) t) (by simp) ?_ (by rw [List.size_toArray] <;> omega)) (by with_unfolding_all rfl)
  rw [PySem.W.krv_pick]
  refine ⟨.ref _, _, I4.laid (t' := s3.toks) (o := .lst xs.reverse) (fun b ob q => Heap.get?_push_of_some _ q) (Nat.le_refl _) ?_, rfl, q _ (I4.hok.fresh (Nat.le_refl _))⟩
  exact ⟨by rw [List.length_reverse]; exact hz, its.reverse, 0, r.reverse, by
    rw [show (its.toArray.toList.reverse).toArray = its.reverse.toArray by simp]
    exact Heap.get?_push_size _ rfl⟩
/-! ### trees of tuples: what a node has of its own, then its parts -/
theorem take_nextR {α : Type} {l : List α} {i : Nat} {c : α} (p : α → Bool) (h : l[i]? = some c) : (l.take (i + 1)).filter p = (l.take i).filter p ++ (if p c = true then [c] else []) := by
  rw [List.take_add_one, h, List.filter_append]
  cases hp : p c <;> simp [hp]
end L2

set_option Elab.async false
set_option linter.all false
set_option maxRecDepth 100000
set_option maxHeartbeats 4000000
namespace L2
open PySem PySem.Spec PyProof.Rows
/-! ### tuples kept -/
/-! ### the rules over a fragment named (within a block) -/
section
variable {X : Cx} {K : PySem.W.Frag}
end
/-! ### sorted of texts -/
section
variable {X : Cx}
end
/-! ### tuples of tuples of plain values, and == of them -/
inductive PV where
  | at (v : V)
  | tup (xs : List PV)
mutual
def eqPV : PV → PV → Bool
  | .at v, .at w => eqV v w
  | .tup xs, .tup ys => eqPVs xs ys
  | .at _, .tup _ => false
  | .tup _, .at _ => false
def eqPVs : List PV → List PV → Bool
  | [], [] => true
  | x :: xs, y :: ys => eqPV x y && eqPVs xs ys
  | [], _ :: _ => false
  | _ :: _, [] => false
end
mutual
/-- the value is that thing, at most n tuples within one another -/
inductive IsPV (K : PySem.W.Frag) (H : Hp) : Nat → V → PV → Prop where
  | at {n : Nat} {v : V} (f : flatV v = true) : IsPV K H n v (.at v)
  | tup {n : Nat} {a : Addr} {vs : List V} {ts : List PV} (h : SqT K H a vs) (r : IsPVs K H n vs ts) : IsPV K H (n + 1) (.ref a) (.tup ts)
inductive IsPVs (K : PySem.W.Frag) (H : Hp) : Nat → List V → List PV → Prop where
  | nil {n : Nat} : IsPVs K H n [] []
  | cons {n : Nat} {v : V} {vs : List V} {t : PV} {ts : List PV} (h : IsPV K H n v t) (r : IsPVs K H n vs ts) : IsPVs K H n (v :: vs) (t :: ts)
end
theorem IsPVs.length {K : PySem.W.Frag} {H : Hp} {n : Nat} : ∀ {vs : List V} {ts : List PV}, IsPVs K H n vs ts → vs.length = ts.length
  | _, _, .nil => rfl
  | _, _, .cons _ r => congrArg (· + 1) r.length
theorem IsPVs.get {K : PySem.W.Frag} {H : Hp} {n : Nat} : ∀ {vs : List V} {ts : List PV} {j : Nat} {v : V}, IsPVs K H n vs ts → vs[j]? = some v → ∃ t, ts[j]? = some t ∧ IsPV K H n v t
  | _, _, _, _, .nil, e => by simp at e
  | _, _, 0, _, .cons h _, e => by simp at e; subst e; exact ⟨_, rfl, h⟩
  | _, _, j + 1, _, .cons _ r, e => by
    rw [List.getElem?_cons_succ] at e
    obtain ⟨t, e2, h⟩ := r.get e
    exact ⟨t, by rw [List.getElem?_cons_succ]; exact e2, h⟩
theorem eqV_refl : ∀ {v : V}, flatV v = true → eqV v v = true := by
  intro v h
  cases v with
  | non => rfl
  | bl b => exact beq_self_eq_true b
  | int i => exact beq_self_eq_true i
  | str x => exact beq_self_eq_true x
  | _ => cases h
theorem eqPVs_all : ∀ (ts us : List PV), ((List.range (min ts.length us.length)).all (fun j => eqPV (ts.getD j (.at .non)) (us.getD j (.at .non))) && ts.length == us.length) = eqPVs ts us
  | [], [] => by unfold eqPVs; rfl
  | [], _ :: _ => by unfold eqPVs; simp
  | _ :: _, [] => by unfold eqPVs; simp
  | t :: ts, u :: us => by
    have ih := eqPVs_all ts us
    unfold eqPVs
    rw [← ih]
    simp only [List.length_cons, Nat.add_min_add_right, List.range_succ_eq_map, List.all_cons, List.all_map, Bool.and_assoc]
    simp [Function.comp_def]
section
variable {X : Cx} {pins : List (Addr × Obj)} {σ : St} {H : Hp} {s : Shared}
theorem pvs_same_of {n : Nat} (ih : ∀ {v : V} {t u : PV}, IsPV X.K H n v t → IsPV X.K H n v u → eqPV t u = true) : ∀ (vs : List V) {ts us : List PV}, IsPVs X.K H n vs ts → IsPVs X.K H n vs us → eqPVs ts us = true := by
  intro vs
  induction vs with
  | nil =>
    intro ts us h h'
    cases h
    cases h'
    unfold eqPVs
    rfl
  | cons v vs ihv =>
    intro ts us h h'
    cases h with
    | cons a b =>
      cases h' with
      | cons a' b' =>
        unfold eqPVs
        rw [ih a a', ihv b b']
        rfl
theorem pv_same (I : Inv X pins σ H s) : ∀ (n : Nat) {v : V} {t u : PV}, IsPV X.K H n v t → IsPV X.K H n v u → eqPV t u = true := by
  intro n
  induction n with
  | zero =>
    intro v t u h h'
    cases h with
    | «at» f =>
      cases h' with
      | «at» g => unfold eqPV; exact eqV_refl f
  | succ n ih =>
    intro v t u h h'
    cases h with
    | «at» f =>
      cases h' with
      | «at» g => unfold eqPV; exact eqV_refl f
      | tup a b => exact absurd (show false = true from f) Bool.false_ne_true
    | tup a r =>
      cases h' with
      | «at» g => exact absurd (show false = true from g) Bool.false_ne_true
      | tup a' r' =>
        have e := I.tuple_inj a a'
        subst e
        unfold eqPV
        exact pvs_same_of ih _ r r'
theorem pvs_same (I : Inv X pins σ H s) {n : Nat} {vs : List V} {ts us : List PV} (h : IsPVs X.K H n vs ts) (h' : IsPVs X.K H n vs us) : eqPVs ts us = true := pvs_same_of (pv_same I n) _ h h'
/-- what two tuples' items answer -/
theorem tupEq (I : Inv X pins σ H s) {n : Nat} {A : Around} {vs ws : List V} {ts us : List PV} {its its2 : List Value} (r : IsPVs X.K H n vs ts) (r' : IsPVs X.K H n ws us) (v1 : Vals vs its) (v2 : Vals ws its2)
    (ih : ∀ {x y : V} {t u : PV} {v w : Value}, IsPV X.K H n x t → IsPV X.K H n y u → RelV x v → RelV y w → SeqAt.EqAt A s v w (eqPV t u)) :
    (∀ j (h1 : j < its.toArray.size) (h2 : j < its2.toArray.size), SeqAt.EqAt A s its.toArray[j] its2.toArray[j] ((fun j => eqPV (ts.getD j (.at .non)) (us.getD j (.at .non))) j)) ∧
    ((List.range (min its.toArray.size its2.toArray.size)).all (fun j => eqPV (ts.getD j (.at .non)) (us.getD j (.at .non))) && its.toArray.size == its2.toArray.size) = eqPVs ts us := by
  have l1 := v1.length
  have l2 := v2.length
  have l3 := r.length
  have l4 := r'.length
  constructor
  · intro j h1 h2
    simp only [List.size_toArray] at h1 h2
    have g1 : vs[j]? = some vs[j] := List.getElem?_eq_getElem (by omega)
    have g2 : ws[j]? = some ws[j] := List.getElem?_eq_getElem (by omega)
    obtain ⟨u1, e1, ru1⟩ := v1.get g1
    obtain ⟨u2, e2, ru2⟩ := v2.get g2
    obtain ⟨t1, f1, p1⟩ := r.get g1
    obtain ⟨t2, f2, p2⟩ := r'.get g2
    have k1 : its.toArray[j] = u1 := by
      have : its[j]? = some its[j] := List.getElem?_eq_getElem h1
      rw [e1] at this
      simpa using (Option.some.inj this).symm
    have k2 : its2.toArray[j] = u2 := by
      have : its2[j]? = some its2[j] := List.getElem?_eq_getElem h2
      rw [e2] at this
      simpa using (Option.some.inj this).symm
    rw [k1, k2]
    show SeqAt.EqAt A s u1 u2 (eqPV (ts.getD j (.at .non)) (us.getD j (.at .non)))
    rw [show ts.getD j (.at .non) = t1 by simp [List.getD, f1], show us.getD j (.at .non) = t2 by simp [List.getD, f2]]
    exact ih p1 p2 ru1 ru2
  · rw [List.size_toArray, List.size_toArray, ← l1, ← l2, l3, l4]
    exact eqPVs_all ts us
theorem eqAt_tup (I : Inv X pins σ H s) {n : Nat} {A : Around} (hu : A.units + (n + 1) < cLine)
    (ih : ∀ (A : Around), A.units + n < cLine → ∀ {x y : V} {t u : PV} {v w : Value}, IsPV X.K H n x t → IsPV X.K H n y u → RelV x v → RelV y w → SeqAt.EqAt A s v w (eqPV t u))
    {a b : Addr} {vs ws : List V} {ts us : List PV} {its its2 : List Value} (h : SqT X.K H a vs) (r : IsPVs X.K H n vs ts) (h' : SqT X.K H b ws) (r' : IsPVs X.K H n ws us)
    (v1 : Vals vs its) (pl : IsTup s.heap a its.toArray) (v2 : Vals ws its2) (pl2 : IsTup s.heap b its2.toArray) : SeqAt.EqAt A s (.ref a) (.ref b) (eqPVs ts us) := by
  by_cases hab : a = b
  · subst hab
    have e := I.tuple_inj h h'
    subst e
    rw [pvs_same I r r']
    exact SeqAt.EqAt.same _
  · obtain ⟨e1, e2⟩ := tupEq (A := A.in1) I r r' v1 v2 (fun hx hy rx ry => ih A.in1 (by show A.units + 1 + n < cLine; omega) hx hy rx ry)
    rw [← e2]
    exact SeqAt.EqAt.of_refs hab (SeqAt.RcAt.tuples pl pl2 (by omega) e1)
theorem eqAt_PV (I : Inv X pins σ H s) : ∀ (n : Nat) (A : Around), A.units + n < cLine → ∀ {x y : V} {t u : PV} {v w : Value}, IsPV X.K H n x t → IsPV X.K H n y u → RelV x v → RelV y w → SeqAt.EqAt A s v w (eqPV t u) := by
  intro n
  induction n with
  | zero =>
    intro A hu x y t u v w hx hy rx ry
    cases hx with
    | «at» f =>
      cases hy with
      | «at» g => unfold eqPV; exact eqAt_V rx ry f g
  | succ n ih =>
    intro A hu x y t u v w hx hy rx ry
    have hu0 : A.units < cLine := by omega
    cases hx with
    | «at» f =>
      cases hy with
      | «at» g => unfold eqPV; exact eqAt_V rx ry f g
      | tup h r =>
        cases ry
        obtain ⟨its, _, pl, _⟩ := I.tuple h
        unfold eqPV
        cases x with
        | non => cases rx; exact SeqAt.EqAt.none_tuple pl hu0
        | bl b => cases rx; exact SeqAt.EqAt.bool_tuple b pl hu0
        | int i => obtain ⟨k, rfl⟩ := rx; exact SeqAt.EqAt.int_tuple i k pl hu0
        | str z => obtain ⟨k, rfl⟩ := rx; exact SeqAt.EqAt.str_tuple z k pl hu0
        | _ => cases f
    | tup h r =>
      cases rx
      obtain ⟨its, v1, pl, _⟩ := I.tuple h
      cases hy with
      | «at» g =>
        unfold eqPV
        cases y with
        | non => cases ry; exact SeqAt.EqAt.tuple_none pl hu0
        | bl b => cases ry; exact SeqAt.EqAt.tuple_bool b pl hu0
        | int i => obtain ⟨k, rfl⟩ := ry; exact SeqAt.EqAt.tuple_int i k pl hu0
        | str z => obtain ⟨k, rfl⟩ := ry; exact SeqAt.EqAt.tuple_str z k pl hu0
        | _ => cases g
      | tup h' r' =>
        cases ry
        obtain ⟨its2, v2, pl2, _⟩ := I.tuple h'
        unfold eqPV
        exact eqAt_tup I hu ih h r h' r' v1 pl v2 pl2
end
section
variable {X : Cx}
/-- == of two tuples of plain things -/
def rEqT (K : PySem.W.Frag) (n : Nat) (neg : Bool) : R2 := fun x y H Q => ∃ a b vs ws ts us, x = .ref a ∧ y = .ref b ∧ SqT K H a vs ∧ IsPVs K H n vs ts ∧ SqT K H b ws ∧ IsPVs K H n ws us ∧ Q (.bl (if neg then !eqPVs ts us else eqPVs ts us)) H
theorem op_ne_tup (n : Nat) (hu : X.A.units + (n + 1) < cLine) : OpR X (compareOp .NotEq) (rEqT X.K n true) := by
  intro pins s σ H x y v u Q I rx ry h
  obtain ⟨a, b, vs, ws, ts, us, rfl, rfl, ha, r, hb, r', q⟩ := h
  cases rx
  cases ry
  obtain ⟨its, v1, pl, _⟩ := I.tuple ha
  obtain ⟨its2, v2, pl2, _⟩ := I.tuple hb
  obtain ⟨e1, e2⟩ := tupEq (A := X.A.in1) I r r' v1 v2 (fun hx hy rx ry => eqAt_PV I n X.A.in1 (by show X.A.units + 1 + n < cLine; omega) hx hy rx ry)
  refine SeqAt.RcNeAt.tuples pl pl2 (by omega) e1 X.prog X.w _ _ (fin_bl I q ?_)
  show (!eqPVs ts us) = _
  rw [e2]
end
end L2
namespace L2
open PySem PySem.Spec PyProof.Rows PySem.Builtin PySem.Builtin.Str
/-! ### texts cut -/
end L2

set_option Elab.async false
set_option linter.all false
set_option maxRecDepth 100000
set_option maxHeartbeats 4000000
namespace L2
open PySem PySem.Spec PyProof.Rows
theorem mapM_map : ∀ {es : List Expr} {vs : List V}, es.mapM constV = some vs → es.map constV = vs.map some := by
  intro es
  induction es with
  | nil =>
    intro vs h
    rw [List.mapM_nil] at h
    have : vs = [] := (Option.some.inj h).symm
    subst this
    rfl
  | cons e es ih =>
    intro vs h
    rw [List.mapM_cons] at h
    cases he : constV e with
    | none => rw [he] at h; cases h
    | some v =>
      cases hr : es.mapM constV with
      | none => rw [he, hr] at h; cases h
      | some r =>
        rw [he, hr] at h
        have : vs = v :: r := (Option.some.inj h).symm
        subst this
        rw [List.map_cons, List.map_cons, he, ih hr]
end L2

set_option Elab.async false
set_option linter.all false
set_option maxRecDepth 100000
set_option maxHeartbeats 4000000
namespace L2
open PySem PySem.Spec PyProof.Rows
/-! ### a call of a function that a name holds (a parameter, a thing out of a table) -/
section
variable {X : Cx} {CX : CXT} {k : Nat} {E : XK} {x : Str} {p pos : Pos} {e : Expr} {es : List Expr} {tf : TE} {t : TA} {Pf : Addr → Prop} {sp : Addr → Sp}
end
/-! ### any thing: flat values, tuples and lists of things -/
inductive Th where
  | at (v : V)
  | tup (xs : List Th)
  | lst (xs : List Th)
/-- a flat value, a text of at most a thousand signs -/
def smallV : V → Bool
  | .str x => decide (x.length ≤ 1000)
  | v => flatV v
mutual
inductive IsTh (H : Hp) : V → Th → Prop where
  | at {v : V} (f : smallV v = true) : IsTh H v (.at v)
  | tup {a : Addr} {vs : List V} {ts : List Th} (h : H a = some (.tup vs)) (r : IsThs H vs ts) : IsTh H (.ref a) (.tup ts)
  | lst {a : Addr} {vs : List V} {ts : List Th} (h : H a = some (.lst vs)) (r : IsThs H vs ts) : IsTh H (.ref a) (.lst ts)
inductive IsThs (H : Hp) : List V → List Th → Prop where
  | nil : IsThs H [] []
  | cons {v : V} {vs : List V} {t : Th} {ts : List Th} (h : IsTh H v t) (r : IsThs H vs ts) : IsThs H (v :: vs) (t :: ts)
end
/-- all but dicts stays -/
def Kp (H H' : Hp) : Prop := ∀ a o, H a = some o → (∀ kvs, o ≠ .dK kvs) → H' a = some o
theorem Kp.trans {H H1 H2 : Hp} (a : Kp H H1) (b : Kp H1 H2) : Kp H H2 := fun c o e n => b c o (a c o e n) n
theorem Kp.of {H H1 : Hp} (a : Same H H1) : Kp H H1 := fun c o e _ => a c o e
mutual
theorem IsTh.kp {H H' : Hp} (k : Kp H H') : ∀ {v : V} {t : Th}, IsTh H v t → IsTh H' v t
  | _, _, .at f => .at f
  | _, _, .tup h r => .tup (k _ _ h (fun _ z => by cases z)) (IsThs.kp k r)
  | _, _, .lst h r => .lst (k _ _ h (fun _ z => by cases z)) (IsThs.kp k r)
theorem IsThs.kp {H H' : Hp} (k : Kp H H') : ∀ {vs : List V} {ts : List Th}, IsThs H vs ts → IsThs H' vs ts
  | _, _, .nil => .nil
  | _, _, .cons h r => .cons (IsTh.kp k h) (IsThs.kp k r)
end
theorem IsThs.len {H : Hp} : ∀ (vs : List V) {ts : List Th}, IsThs H vs ts → vs.length = ts.length := by
  intro vs
  induction vs with
  | nil => intro ts h; cases h; rfl
  | cons v vs ih =>
    intro ts h
    cases h with
    | cons a b => rw [List.length_cons, List.length_cons, ih b]
theorem IsThs.app {H : Hp} : ∀ (vs : List V) {ws : List V} {ts us : List Th}, IsThs H vs ts → IsThs H ws us → IsThs H (vs ++ ws) (ts ++ us) := by
  intro vs
  induction vs with
  | nil => intro ws ts us h g; cases h; exact g
  | cons v vs ih =>
    intro ws ts us h g
    cases h with
    | cons a b => exact .cons a (ih b g)
end L2

set_option Elab.async false
set_option linter.all false
set_option maxRecDepth 100000
set_option maxHeartbeats 4000000
namespace L2
open PySem PySem.Spec PyProof.Rows
/-! ### a dict of the module, its keys texts -/
section
variable {X : Cx} {o e f : Expr} {apos cpos : Pos} {td ty tx : TE}
end
end L2

set_option Elab.async false
set_option linter.all false
set_option maxRecDepth 100000
set_option maxHeartbeats 4000000
namespace L2
open PySem PySem.Spec PyProof.Rows
section
variable {X : Cx}
/-- while by a measure that is told beside the state -/
theorem while_m {c : TT} {tb : TS} {D : Ends} {σ : St} {H : Hp} (Pv : Nat → St → Hp → Prop) (m0 : Nat) (h0 : Pv m0 σ H)
    (hs : ∀ m σ H, Pv m σ H → c σ H fun b H1 => if b = true then tb { D with nx := fun σ' H' => ∃ m', m' < m ∧ Pv m' σ' H', ct := fun σ' H' => ∃ m', m' < m ∧ Pv m' σ' H', bk := D.nx } σ H1 else D.nx σ H1)
    (mono : ∀ σ H Q Q', (∀ b H1, Q b H1 → Q' b H1) → c σ H Q → c σ H Q') : tWhile c tb D σ H := by
  refine ⟨Pv, ⟨m0, h0⟩, ?_⟩
  intro m σ H p
  refine mono σ H _ _ (fun b H1 q => ?_) (hs m σ H p)
  cases b with
  | true => exact ⟨_, fun σ' H' z => z, q⟩
  | false => exact q
end
end L2

set_option Elab.async false
set_option linter.all false
set_option maxRecDepth 100000
set_option maxHeartbeats 4000000
namespace L2
open PySem PySem.Spec PyProof.Rows PySem.Builtin PySem.Builtin.Str
end L2

set_option Elab.async false
set_option linter.all false
set_option maxRecDepth 100000
set_option maxHeartbeats 4000000
namespace L2
open PySem PySem.Spec PyProof.Rows
section
variable {X : Cx}
end
end L2

set_option Elab.async false
set_option linter.all false
set_option maxRecDepth 100000
set_option maxHeartbeats 4000000
namespace HT
open PySem PySem.Spec PyProof.Rows
section
variable {prog : Program} {w : World} {A : Around} {E : Value → Shared → Prop} {s : Shared}
theorem getItem_tuple_all {t sl : Addr} {items : Array Value} {vl vu : Value} {lo hi : Option Int} {Q : Value → Shared → Prop} (ht : IsTup s.heap t items) (hs : s.heap.IsSliceOf sl vl vu .none) (pl : IsPart vl lo) (pu : IsPart vu hi)
    (hw : sIx items.size 0 lo = 0 ∧ sIx items.size items.size hi = items.size) (h : Q (.ref t) s) : wpAny (model prog w) A (getItem (.ref t) (.ref sl)) Q E s := by
  obtain ⟨os, hos, hcs, hds⟩ := id hs
  have hTs : s.TypeIs (.ref sl) "slice" := ⟨os, hos, hcs⟩
  unfold getItem
  try with_reducible refine wpAny_holding ?_
  first | refine wpAny_bind (wpAny_pure ?_) | skip
  refine wpAny_bind (wpAny_sequenceKey ht.typeIs (by decide) ?_)
  refine wpAny_bind (wpAny_callSpecial?_slot (name := Str.ofString "__getitem__") ht.typeIs PyProof.Rows.slot_tuple_getitem
    (wpAny_call_entry PyProof.Rows.slot_tuple_getitem ht.typeIs entry_tuple_getitem ?_ (args_tuple_getitem _ _)))
  show wpAny _ _ (Builtin.Tuple.tupleItemsOf (.ref t) >>= _) _ _ s
  refine wpAny_bind (tupleItemsOf_ ht ?_)
  refine wpAny_bind (wpAny_typeOf hTs ?_)
  rw [if_pos (by decide)]
  refine wpAny_bind (sliceApplied_gen hs pl pu ?_)
  have hno : ((((sIx items.size 0 lo : Nat) : Int) == 0 && (1 : Int) == 1 && (sIx items.size items.size hi - sIx items.size 0 lo) == items.size) = true) := by
    rw [hw.1, hw.2]; simp
  show wpAny _ _ (if (((sIx items.size 0 lo : Nat) : Int) == 0 && (1 : Int) == 1 && (sIx items.size items.size hi - sIx items.size 0 lo) == items.size) = true then _ else _) _ _ s
  rw [if_pos hno]
  refine wpAny_bind (m := Builtin.Tuple.tupleIsExact _) (wpAny_bind (wpAny_typeOf ht.typeIs (wpAny_pure ?_)))
  rw [if_pos (by decide)]
  refine wpAny_bind (wpAny_rule ?_)
  exact wpAny_pure ⟨_, rfl, wpAny_pure h⟩
end
end HT
namespace L2
open PySem PySem.Spec PyProof.Rows
section
variable {X : Cx}
theorem cutV_all {xs : List V} {lo hi : Option Int} (h : HT.sIx xs.length 0 lo = 0 ∧ HT.sIx xs.length xs.length hi = xs.length) : cutV xs lo hi = xs := by
  unfold cutV
  rw [h.1, h.2, List.drop_zero, Nat.sub_zero, List.take_of_length_le (Nat.le_refl _)]
end
end L2

set_option Elab.async false
set_option linter.all false
set_option maxRecDepth 100000
set_option maxHeartbeats 4000000
namespace L2
open PySem PySem.Spec PyProof.Rows
section
variable {X : Cx}
/-- t[lo:hi] of a plain tuple -/
def rSlP : V → Option Int → Option Int → Hp → VK → Prop := fun x lo hi H Q => ∃ a xs, x = .ref a ∧ H a = some (.tup xs) ∧ ∀ p H', Same H H' → H' p = some (.tup (cutV xs lo hi)) → Q (.ref p) H'
theorem sl_tupP : SlR X rSlP := by
  intro pins s σ H x v vl vu lo hi sl Q I rx hs pl pu h
  obtain ⟨a, xs, rfl, hx, q⟩ := h
  by_cases hw : HT.sIx xs.length 0 lo = 0 ∧ HT.sIx xs.length xs.length hi = xs.length
  · cases rx
    obtain ⟨its, r, ht, hz⟩ := I.tuple (SqT.of hx)
    have hlen : its.toArray.size = xs.length := by rw [List.size_toArray]; exact r.length.symm
    refine ⟨"tuple", _, PyProof.Rows.slot_tuple_getitem.lookup, ht.typeIs, ?_⟩
    refine HT.getItem_tuple_all ht hs pl pu (by rw [hlen]; exact hw) ?_
    exact ⟨.ref a, H, I, rfl, q a H (Same.refl H) (by rw [cutV_all hw]; exact hx)⟩
  · exact sl_tup pins s σ H (.ref a) v vl vu lo hi sl Q I rx hs pl pu ⟨a, xs, rfl, SqT.of hx, hw, fun p hp => q p _ (same_upd hp) upd_same⟩
end
end L2

set_option Elab.async false
set_option linter.all false
set_option maxRecDepth 100000
set_option maxHeartbeats 4000000
namespace L2
open PySem PySem.Spec PyProof.Rows
/-! ### a call while a list is hidden: what comes back does not reach it -/
section
variable {X : Cx} {pins : List (Addr × Obj)} {σ : St} {H H1 : Hp} {s s1 : Shared}
end
section
variable {X : Cx} {CX : CXT} {k : Nat} {f : Addr} {fd : FuncData} {ps : List Str} {sp : Sp} {E : XK} {x : Str} {p pos : Pos} {e : Expr} {es : List Expr} {t : TA} {ds : List Value} {dvs : List V}
end
end L2

set_option Elab.async false
set_option linter.all false
set_option maxRecDepth 100000
set_option maxHeartbeats 4000000
namespace L2
open PySem PySem.Spec PyProof.Rows
/-! ### a dict of constants, whatever its length up to fifteen -/
section
variable {X : Cx}
end
end L2

set_option Elab.async false
set_option linter.all false
set_option maxRecDepth 100000
set_option maxHeartbeats 4000000
namespace L2
open PySem PySem.Spec PyProof.Rows
section
variable {X : Cx}
end
end L2

set_option Elab.async false
set_option linter.all false
set_option maxRecDepth 100000
set_option maxHeartbeats 4000000
namespace L2
open PySem PySem.Spec PyProof.Rows
section
variable {X : Cx} {pins : List (Addr × Obj)} {σ : St} {H : Hp} {s : Shared} {h' : Heap}
end
/-! ### enumerate -/
end L2

set_option Elab.async false
set_option linter.all false
set_option maxRecDepth 100000
set_option maxHeartbeats 4000000
namespace L2
open PySem PySem.Spec PyProof.Rows PySem.Builtin PySem.AutoSeq1
/-! ### enumerate of a tuple -/
section
variable {P : Program} {w : World} {B : Around} {G : Value → Shared → Prop} {z : Shared}
end
end L2

set_option Elab.async false
set_option linter.all false
set_option maxRecDepth 100000
set_option maxHeartbeats 4000000
namespace L2
open PySem PySem.Spec PyProof.Rows
section
variable {X : Cx}
end
end L2

set_option Elab.async false
set_option linter.all false
set_option maxRecDepth 100000
set_option maxHeartbeats 4000000
namespace L2
open PySem PySem.Spec PyProof.Rows
section
variable {X : Cx}
end
/-! ### repr of a tuple of things -/
section
variable {X : Cx}
end
end L2

set_option Elab.async false
set_option linter.all false
set_option maxRecDepth 100000
set_option maxHeartbeats 4000000
namespace L2
open PySem PySem.Spec PyProof.Rows
/-! ### things: what they are, how large, how deep -/
def isTup : Th → Bool
  | .tup _ => true
  | _ => false
def tyOf : Th → String
  | .at .non => "NoneType"
  | .at (.bl _) => "bool"
  | .at (.int _) => "int"
  | .at (.str _) => "str"
  | .tup _ => "tuple"
  | .lst _ => "list"
  | _ => ""
def isBlT : Th → Bool
  | .at (.bl _) => true
  | _ => false
def isIntT : Th → Bool
  | .at (.int _) => true
  | .at (.bl _) => true
  | _ => false
theorem th_ty {K : PySem.W.Frag} {H : Hp} {v : V} {t : Th} (h : IsTh H v t) : TyOf K H v (.type (tyOf t)) := by
  cases h with
  | «at» f =>
    cases v with
    | non => exact .non
    | bl b => exact .bl b
    | int i => exact .int i
    | str x => exact .str x
    | _ => exact absurd (show false = true from f) Bool.false_ne_true
  | tup e r => exact .tup e
  | lst e r => exact .lst e
structure Kits (K : PySem.W.Frag) : Prop where
  int : ∀ {H : Hp} {v : V} {t : Th}, IsTh H v t → PySem.W.kitOne K (.type (tyOf t)) (.type "int") = some (isIntT t)
  bl : ∀ {H : Hp} {v : V} {t : Th}, IsTh H v t → PySem.W.kitOne K (.type (tyOf t)) (.type "bool") = some (isBlT t)
  tup : ∀ {H : Hp} {v : V} {t : Th}, IsTh H v t → PySem.W.kitOne K (.type (tyOf t)) (.type "tuple") = some (isTup t)
theorem ths_get {H : Hp} : ∀ (vs : List V) {ts : List Th} {i : Nat} {v : V}, IsThs H vs ts → vs[i]? = some v → ∃ t, ts[i]? = some t ∧ IsTh H v t := by
  intro vs
  induction vs with
  | nil => intro ts i v h e; cases e
  | cons u vs ih =>
    intro ts i v h e
    cases h with
    | cons a b =>
      cases i with
      | zero =>
        have e' : u = v := by simpa using e
        subst e'
        exact ⟨_, rfl, a⟩
      | succ i =>
        rw [List.getElem?_cons_succ] at e
        obtain ⟨t, e1, e2⟩ := ih b e
        exact ⟨t, by rw [List.getElem?_cons_succ]; exact e1, e2⟩
theorem th_tup {H : Hp} {v : V} {ts : List Th} (h : IsTh H v (.tup ts)) : ∃ a vs, v = .ref a ∧ H a = some (.tup vs) ∧ IsThs H vs ts := by
  cases h with
  | tup e r => exact ⟨_, _, rfl, e, r⟩
theorem th_at {H : Hp} {v w : V} (h : IsTh H v (.at w)) : v = w ∧ smallV w = true := by
  cases h with
  | «at» f => exact ⟨rfl, f⟩
/-- the last of them -/
theorem ths_last {H : Hp} : ∀ (ws : List V) {us : List Th}, IsThs H ws us → ws ≠ [] → ∃ ws' y us' u, ws = ws' ++ [y] ∧ us = us' ++ [u] ∧ IsThs H ws' us' ∧ IsTh H y u := by
  intro ws
  induction ws with
  | nil => intro us h n; exact absurd rfl n
  | cons v vs ih =>
    intro us h _
    cases h with
    | @cons _ _ t ts a b =>
      cases vs with
      | nil => cases b; exact ⟨[], v, [], t, rfl, rfl, .nil, a⟩
      | cons v2 vs2 =>
        obtain ⟨ws', y, us', u, e1, e2, h1, h2⟩ := ih b (by intro z; cases z)
        exact ⟨v :: ws', y, t :: us', u, by rw [e1]; rfl, by rw [e2]; rfl, .cons a h1, h2⟩
theorem ths_rev {H : Hp} : ∀ (vs : List V) {ts : List Th}, IsThs H vs ts → IsThs H vs.reverse ts.reverse := by
  intro vs
  induction vs with
  | nil => intro ts h; cases h; exact .nil
  | cons v vs ih =>
    intro ts h
    cases h with
    | cons a b =>
      rw [List.reverse_cons, List.reverse_cons]
      exact IsThs.app _ (ih b) (.cons a .nil)
mutual
def Th.sz : Th → Nat
  | .at _ => 1
  | .tup xs => 1 + szs xs
  | .lst xs => 1 + szs xs
def szs : List Th → Nat
  | [] => 0
  | x :: xs => Th.sz x + szs xs
end
theorem sz_pos (t : Th) : 1 ≤ Th.sz t := by
  cases t with
  | «at» v => simp [Th.sz]
  | tup xs => simp [Th.sz]
  | lst xs => simp [Th.sz]
theorem szs_app : ∀ us ws : List Th, szs (us ++ ws) = szs us + szs ws := by
  intro us
  induction us with
  | nil => intro ws; simp [szs]
  | cons u us ih => intro ws; rw [List.cons_append, szs, szs, ih]; omega
theorem szs_len : ∀ ts : List Th, ts.length ≤ szs ts := by
  intro ts
  induction ts with
  | nil => simp [szs]
  | cons t ts ih => have := sz_pos t; rw [List.length_cons, szs]; omega
theorem sz_mem : ∀ (ts : List Th) (t : Th), t ∈ ts → Th.sz t ≤ szs ts := by
  intro ts
  induction ts with
  | nil => intro t h; cases h
  | cons u ts ih =>
    intro t h
    rw [szs]
    rcases List.mem_cons.mp h with z | z
    · subst z; omega
    · have := ih t z; omega
/-- the parts of a node -/
def kidsL (ts : List Th) : List Th := ts.filter isTup
/-- a node: a word, then plain things and nodes; a let has two parts -/
def OkT : Nat → Th → Prop
  | 0, _ => False
  | n + 1, t => ∃ (w : Str) (ts : List Th), t = .tup (.at (.str w) :: ts) ∧ (w = "let" → (kidsL ts).length = 2) ∧ ∀ x ∈ ts, isTup x = true → OkT n x
theorem OkT.up : ∀ (n : Nat) {t : Th}, OkT n t → OkT (n + 1) t := by
  intro n
  induction n with
  | zero => intro t h; exact h.elim
  | succ n ih =>
    intro t h
    obtain ⟨w, ts, e, h1, h2⟩ := h
    exact ⟨w, ts, e, h1, fun x hx hx2 => ih (h2 x hx hx2)⟩
theorem same_none {H H' : Hp} {p : Addr} (s : Same H H') (h : H' p = none) : H p = none := by
  cases e : H p with
  | none => rfl
  | some o => rw [s p o e] at h; cases h
theorem cut1q (x : V) (xs : List V) : cutV (x :: xs) (some 1) none = xs := by
  have e1 : HT.sIx (x :: xs).length 0 (some 1) = min 1 (x :: xs).length := rfl
  have e2 : HT.sIx (x :: xs).length (x :: xs).length none = (x :: xs).length := rfl
  unfold cutV
  rw [e1, e2, List.length_cons]
  have e3 : min 1 (xs.length + 1) = 1 := by omega
  rw [e3]
  show List.take (xs.length + 1 - 1) xs = xs
  exact List.take_of_length_le (by omega)
end L2

set_option Elab.async false
set_option linter.all false
set_option maxRecDepth 100000
set_option maxHeartbeats 4000000
namespace L2
open PySem
/-! ### the walk through a tree, as plain lists -/
def isLetT (xs : List Th) : Bool := match xs with
  | .at (.str w) :: _ => decide (w = "let")
  | _ => false
def markT (l : Bool) (me : Th) : Nat → List (Str × Th)
  | 0 => if l = true then [(("opened" : Str), me)] else []
  | 1 => if l = true then [(("closed" : Str), me)] else []
  | _ => []
mutual
def stepsT : Th → List (Str × Th)
  | .tup xs => (("node" : Str), Th.tup xs) :: innerT (isLetT xs) (.tup xs) 0 xs
  | .at _ => []
  | .lst _ => []
def innerT (l : Bool) (me : Th) : Nat → List Th → List (Str × Th)
  | _, [] => []
  | i, x :: xs => if isTup x = true then stepsT x ++ (markT l me i ++ innerT l me (i + 1) xs) else innerT l me i xs
end
def innerK (l : Bool) (me : Th) : Nat → List Th → List (Str × Th)
  | _, [] => []
  | i, k :: ks => stepsT k ++ (markT l me i ++ innerK l me (i + 1) ks)
theorem inner_kids (l : Bool) (me : Th) : ∀ (xs : List Th) (i : Nat), innerT l me i xs = innerK l me i (kidsL xs) := by
  intro xs
  induction xs with
  | nil => intro i; simp [innerT, innerK, kidsL]
  | cons x xs ih =>
    intro i
    rw [innerT]
    unfold kidsL
    rw [List.filter_cons]
    split
    · rw [innerK, ih]; rfl
    · rw [ih]; rfl
theorem innerK_plain (me : Th) : ∀ (ks : List Th) (i : Nat), innerK false me i ks = (ks.map stepsT).flatten := by
  intro ks
  induction ks with
  | nil => intro i; rfl
  | cons k ks ih =>
    intro i
    have e : markT false me i = [] := by
      match i with
      | 0 => rfl
      | 1 => rfl
      | _ + 2 => rfl
    rw [innerK, ih, e, List.map_cons, List.flatten_cons, List.nil_append]
theorem steps_plain {xs : List Th} (h : isLetT xs = false) : stepsT (.tup xs) = (("node" : Str), Th.tup xs) :: ((kidsL xs).map stepsT).flatten := by
  rw [stepsT, inner_kids, h, innerK_plain]
theorem steps_let {xs : List Th} {k1 k2 : Th} (h : isLetT xs = true) (hk : kidsL xs = [k1, k2]) : stepsT (.tup xs) = (("node" : Str), Th.tup xs) :: (stepsT k1 ++ ((("opened" : Str), Th.tup xs) :: (stepsT k2 ++ [(("closed" : Str), Th.tup xs)]))) := by
  rw [stepsT, inner_kids, h, hk]
  simp [innerK, markT]
def todo1 (p : Str × Th) : List (Str × Th) := if p.1 = "node" then stepsT p.2 else [p]
/-- what a stack (its top last) still stands for -/
def todoT (st : List (Str × Th)) : List (Str × Th) := (st.reverse.map todo1).flatten
theorem todo_snoc (st : List (Str × Th)) (x : Str × Th) : todoT (st ++ [x]) = todo1 x ++ todoT st := by
  unfold todoT; simp
theorem todo_rev (st r : List (Str × Th)) : todoT (st ++ r.reverse) = (r.map todo1).flatten ++ todoT st := by
  unfold todoT; simp
theorem todo1_node (t : Th) : todo1 (("node" : Str), t) = stepsT t := by unfold todo1; simp
theorem todo1_open (t : Th) : todo1 (("opened" : Str), t) = [(("opened" : Str), t)] := by
  unfold todo1; rw [if_neg (by show ¬ (("opened" : Str) = "node"); decide +kernel)]
theorem todo1_close (t : Th) : todo1 (("closed" : Str), t) = [(("closed" : Str), t)] := by
  unfold todo1; rw [if_neg (by show ¬ (("closed" : Str) = "node"); decide +kernel)]
theorem todo_plain {st : List (Str × Th)} {xs : List Th} (h : isLetT xs = false) : todoT (st ++ [(("node" : Str), Th.tup xs)]) = (("node" : Str), Th.tup xs) :: todoT (st ++ ((kidsL xs).map fun k => (("node" : Str), k)).reverse) := by
  rw [todo_snoc, todo_rev, todo1_node, steps_plain h, List.map_map]
  show _ :: (_ ++ _) = _ :: (_ ++ _)
  congr 2
theorem todo_let {st : List (Str × Th)} {xs : List Th} {k1 k2 : Th} (h : isLetT xs = true) (hk : kidsL xs = [k1, k2]) :
    todoT (st ++ [(("node" : Str), Th.tup xs)]) = (("node" : Str), Th.tup xs) :: todoT (st ++ ([(("node" : Str), k1), (("opened" : Str), Th.tup xs), (("node" : Str), k2), (("closed" : Str), Th.tup xs)] : List (Str × Th)).reverse) := by
  rw [todo_snoc, todo_rev, todo1_node, steps_let h hk]
  simp [todo1_node, todo1_open, todo1_close]
/-- a pair in the heap -/
def pr (p : Str × Th) : Th := .tup [.at (.str p.1), p.2]
/-! ### how many nodes, and the ways to them -/
mutual
def cnt : Th → Nat
  | .tup xs => 1 + cnts xs
  | .at _ => 0
  | .lst _ => 0
def cnts : List Th → Nat
  | [] => 0
  | x :: xs => cnt x + cnts xs
end
theorem cnt_tup (t : Th) (h : isTup t = false) : cnt t = 0 := by
  cases t with
  | «at» v => simp [cnt]
  | lst xs => simp [cnt]
  | tup xs => cases h
theorem cnts_kids : ∀ xs : List Th, cnts xs = cnts (kidsL xs) := by
  intro xs
  induction xs with
  | nil => rfl
  | cons x xs ih =>
    unfold kidsL
    rw [cnts, List.filter_cons]
    split
    · rw [cnts, ih]; rfl
    · rw [cnt_tup x (by simp_all), Nat.zero_add, ih]; rfl
end L2

set_option Elab.async false
set_option linter.all false
set_option maxRecDepth 100000
set_option maxHeartbeats 4000000
namespace L2
open PySem PySem.Spec PyProof.Rows
section
variable {K : PySem.W.Frag} {a : Addr} {xs : List V} {σ0 : St} {H : Hp} {g : TG} {tt : TT} {te : TE} {Q : List V → Hp → Prop}
end
/-! ### ways -/
end L2

set_option Elab.async false
set_option linter.all false
set_option maxRecDepth 100000
set_option maxHeartbeats 1000000
namespace Srt
open PySem PyProof.Rows
def gal : Bool → Keyed → Array Keyed → Nat → Nat → Nat → StateT SortSt Sem (Option Nat) := sortPriv% PySem.Builtin.gallop
def mLo : Array Keyed → Array Keyed → StateT SortSt Sem (Array Keyed) := sortPriv% PySem.Builtin.mergeLo
def mHi : Array Keyed → Array Keyed → StateT SortSt Sem (Array Keyed) := sortPriv% PySem.Builtin.mergeHi
section
variable {prog : Program} {w : World} {A : Around} {E : Value → Shared → Prop} {s : Shared}
theorem keyAt {xs : Array Keyed} (h : IntKeys xs) {i : Nat} (hi : i < xs.size) : ∃ t q, xs[i]? = some (.int (K xs i) t, q) := by
  have e : xs[i]? = some xs[i] := getElem?_pos _ i hi
  obtain ⟨n, t, hn⟩ := h xs[i] (by simp)
  refine ⟨t, xs[i].2, ?_⟩
  have e2 : xs[i] = (.int n t, xs[i].2) := Prod.ext hn rfl
  unfold K
  rw [e, e2]
  rfl
theorem wpS_elem {xs : Array Keyed} {i : Nat} {p : Keyed} {st : SortSt} {Q : Keyed → SortSt → Prop} (h : xs[i]? = some p) (q : Q p st) : wpS (model prog w) A E s (elem' xs i) Q st := by
  rw [elem'_eq, h]
  exact wpS_pure q
theorem wpS_lt {a b : Int} {t u : Tok} {p q : Value} {st : SortSt} {Q : Option Bool → SortSt → Prop} (hk : kindOf st = oneType') (h : Q (some (decide (a < b))) st) :
    wpS (model prog w) A E s (lt' (.int a t, p) (.int b u, q)) Q st := by
  rw [lt'_eq]
  refine wpS_bind (wpS_get ?_)
  rw [hk, keyLt'_oneType]
  refine wpS_bind (wpS_lift (wpAny_attempt (oneLt_int ⟨rfl, ?_⟩)))
  exact wpS_pure h
/-- what a search asks of an item y: left, is y < x; right, is not x < y -/
def byd (left : Bool) (x y : Int) : Bool := bif left then decide (y < x) else !decide (x < y)
theorem wpS_byd {left : Bool} {x : Int} {tk : Tok} {q : Value} {arr : Array Keyed} {j : Nat} {st : SortSt} {Q : Option Bool → SortSt → Prop} (hI : IntKeys arr) (hj : j < arr.size) (hk : kindOf st = oneType')
    (h : Q (some (byd left x (K arr j))) st) : wpS (model prog w) A E s (elem' arr j >>= fun y => if left = true then lt' y (.int x tk, q) else (lt' (.int x tk, q) y >>= fun r => pure (r.map (!·)))) Q st := by
  obtain ⟨t, z, e⟩ := keyAt hI hj
  refine wpS_bind (wpS_elem e ?_)
  cases left with
  | true => exact wpS_lt hk h
  | false => exact wpS_bind (wpS_lt hk (wpS_pure h))
theorem wpS_gal {left : Bool} {x : Int} {tk : Tok} {q : Value} {arr : Array Keyed} {b n hint p : Nat} {st : SortSt} {Q : Option Nat → SortSt → Prop} (hI : IntKeys arr) (hk : kindOf st = oneType') (hsz : b + n ≤ arr.size) (hh : hint < n) (hp : p ≤ n)
    (h1 : ∀ i, i < p → byd left x (K arr (b + i)) = true) (h2 : ∀ i, p ≤ i → i < n → byd left x (K arr (b + i)) = false) (h : Q (some p) st) : wpS (model prog w) A E s (gal left (.int x tk, q) arr b n hint) Q st := by
  refine wpS_bind (wpS_byd hI (by omega) hk ?_)
  have far : ∀ i, i < n → (byd left x (K arr (b + i)) = true ↔ i < p) := fun i hi => by
    by_cases hip : i < p
    · exact ⟨fun _ => hip, fun _ => h1 i hip⟩
    · rw [h2 i (by omega) hi]
      exact ⟨fun z => absurd z (by decide), fun z => absurd z hip⟩
  by_cases hr : byd left x (K arr (b + hint)) = true
  · have hp' := (far hint hh).mp hr
    dsimp only
    rw [if_pos hr]
    refine wpS_bind (wpS_mono (wpS_forRange (I := fun k c st' => st' = st ∧ ∃ u v, c = (none, u, v) ∧ k < v ∧ u < v ∧ hint + u < p) (Q := fun c st' => st' = st ∧ ∃ u v, c = (none, u, v) ∧ hint + u < p ∧ p ≤ hint + min v (n - hint)) ?e1 ?e2 ⟨rfl, 0, 1, rfl, by omega, by omega, hp'⟩) ?e3)
    case e2 =>
      rintro c st' ⟨rfl, u, v, rfl, h3, h4, h5⟩
      exact ⟨rfl, u, v, rfl, h5, by omega⟩
    case e1 =>
      rintro k c st' _ hkn ⟨rfl, u, v, rfl, h3, h4, h5⟩
      dsimp only
      by_cases hv : v ≥ n - hint
      · rw [if_pos hv]
        exact wpS_pure ⟨rfl, u, v, rfl, h5, by omega⟩
      · rw [if_neg hv]
        refine wpS_bind (wpS_byd hI (by omega) hk ?_)
        dsimp only
        by_cases hm : byd left x (K arr (b + (hint + v))) = true
        · rw [hm]
          exact wpS_pure ⟨rfl, v, 2 * v + 1, rfl, by omega, by omega, (far _ (by omega)).mp hm⟩
        · have hm' := (not_congr (far (hint + v) (by omega))).mp hm
          rw [Bool.not_eq_true] at hm
          rw [hm]
          exact wpS_pure ⟨rfl, u, v, rfl, h5, by omega⟩
    case e3 =>
      rintro c st' ⟨rfl, u, v, rfl, h3, h4⟩
      dsimp only
      refine wpS_bind (wpS_mono (wpS_forRange (I := fun k c st'' => st'' = st' ∧ ∃ u v, c = (none, u, v) ∧ u ≤ p ∧ p ≤ v ∧ v ≤ n ∧ v - u ≤ n - k) (Q := fun c st'' => st'' = st' ∧ ∃ u, c = (none, u, p)) ?f1 ?f2 ⟨rfl, _, _, rfl, by omega, by omega, by omega, by omega⟩) ?f3)
      case f2 =>
        rintro c st'' ⟨rfl, u, v, rfl, h7, h8, h9, h10⟩
        obtain rfl : v = p := by omega
        exact ⟨rfl, u, rfl⟩
      case f3 =>
        rintro c st'' ⟨rfl, u, rfl⟩
        exact wpS_pure h
      case f1 =>
        rintro k c st'' _ hkn ⟨rfl, u, v, rfl, h7, h8, h9, h10⟩
        dsimp only
        by_cases huv : u ≥ v
        · rw [if_pos huv]
          obtain rfl : v = p := by omega
          exact wpS_pure ⟨rfl, u, rfl⟩
        · rw [if_neg huv]
          refine wpS_bind (wpS_byd hI (by omega) hk ?_)
          dsimp only
          by_cases hm : byd left x (K arr (b + (u + (v - u) / 2))) = true
          · rw [if_pos hm]
            have := (far _ (by omega)).mp hm
            exact wpS_pure ⟨rfl, u + (v - u) / 2 + 1, v, rfl, by omega, by omega, by omega, by omega⟩
          · rw [if_neg hm]
            have := (not_congr (far (u + (v - u) / 2) (by omega))).mp hm
            exact wpS_pure ⟨rfl, u, u + (v - u) / 2, rfl, by omega, by omega, by omega, by omega⟩
  · have hp' := (not_congr (far hint hh)).mp hr
    dsimp only
    rw [if_neg hr]
    refine wpS_bind (wpS_mono (wpS_forRange (I := fun k c st' => st' = st ∧ ∃ u v, c = (none, u, v) ∧ k < v ∧ u < v ∧ p ≤ hint - u ∧ u ≤ hint) (Q := fun c st' => st' = st ∧ ∃ u v, c = (none, u, v) ∧ p ≤ hint - u ∧ hint + 1 - min v (hint + 1) ≤ p ∧ u ≤ hint) ?e1 ?e2 ⟨rfl, 0, 1, rfl, by omega, by omega, by omega, by omega⟩) ?e3)
    case e2 =>
      rintro c st' ⟨rfl, u, v, rfl, h3, h4, h5⟩
      exact ⟨rfl, u, v, rfl, h5.1, by omega, h5.2⟩
    case e1 =>
      rintro k c st' _ hkn ⟨rfl, u, v, rfl, h3, h4, h5, h6⟩
      dsimp only
      by_cases hv : v ≥ hint + 1
      · rw [if_pos hv]
        exact wpS_pure ⟨rfl, u, v, rfl, h5, by omega, h6⟩
      · rw [if_neg hv]
        refine wpS_bind (wpS_byd hI (by omega) hk ?_)
        dsimp only
        by_cases hm : byd left x (K arr (b + (hint - v))) = true
        · rw [if_pos hm]
          have := (far (hint - v) (by omega)).mp hm
          exact wpS_pure ⟨rfl, u, v, rfl, h5, by omega, h6⟩
        · have hm' := (not_congr (far (hint - v) (by omega))).mp hm
          rw [if_neg hm]
          exact wpS_pure ⟨rfl, v, 2 * v + 1, rfl, by omega, by omega, by omega, by omega⟩
    case e3 =>
      rintro c st' ⟨rfl, u, v, rfl, h3, h4, h6⟩
      dsimp only
      refine wpS_bind (wpS_mono (wpS_forRange (I := fun k c st'' => st'' = st' ∧ ∃ u v, c = (none, u, v) ∧ u ≤ p ∧ p ≤ v ∧ v ≤ n ∧ v - u ≤ n - k) (Q := fun c st'' => st'' = st' ∧ ∃ u, c = (none, u, p)) ?f1 ?f2 ⟨rfl, _, _, rfl, by omega, by omega, by omega, by omega⟩) ?f3)
      case f2 =>
        rintro c st'' ⟨rfl, u, v, rfl, h7, h8, h9, h10⟩
        obtain rfl : v = p := by omega
        exact ⟨rfl, u, rfl⟩
      case f3 =>
        rintro c st'' ⟨rfl, u, rfl⟩
        exact wpS_pure h
      case f1 =>
        rintro k c st'' _ hkn ⟨rfl, u, v, rfl, h7, h8, h9, h10⟩
        dsimp only
        by_cases huv : u ≥ v
        · rw [if_pos huv]
          obtain rfl : v = p := by omega
          exact wpS_pure ⟨rfl, u, rfl⟩
        · rw [if_neg huv]
          refine wpS_bind (wpS_byd hI (by omega) hk ?_)
          dsimp only
          by_cases hm : byd left x (K arr (b + (u + (v - u) / 2))) = true
          · rw [if_pos hm]
            have := (far _ (by omega)).mp hm
            exact wpS_pure ⟨rfl, u + (v - u) / 2 + 1, v, rfl, by omega, by omega, by omega, by omega⟩
          · rw [if_neg hm]
            have := (not_congr (far (u + (v - u) / 2) (by omega))).mp hm
            exact wpS_pure ⟨rfl, u, u + (v - u) / 2, rfl, by omega, by omega, by omega, by omega⟩
end
end Srt

set_option Elab.async false
set_option linter.all false
set_option maxRecDepth 100000
set_option maxHeartbeats 1000000
namespace Srt
open PySem PyProof.Rows
def key (p : Keyed) : Int := numOf p.1
def Sd (l : List Keyed) : Prop := l.Pairwise fun x y => key x ≤ key y
def Le (l m : List Keyed) : Prop := ∀ x ∈ l, ∀ y ∈ m, key x ≤ key y
theorem K_key {xs : Array Keyed} {i : Nat} {p : Keyed} (h : xs[i]? = some p) : K xs i = key p := by
  unfold K
  rw [h]
  rfl
theorem drop_at {l : List Keyed} {i : Nat} {p : Keyed} (h : l[i]? = some p) : l.drop i = p :: l.drop (i + 1) := by
  obtain ⟨hi, rfl⟩ := List.getElem?_eq_some_iff.mp h
  exact List.drop_eq_getElem_cons hi
theorem take_at {l : List Keyed} {i : Nat} {p : Keyed} (h : l[i]? = some p) : l.take (i + 1) = l.take i ++ [p] := by
  rw [List.take_add_one, h]
  rfl
theorem Sd.from {l : List Keyed} (h : Sd l) {i : Nat} {p : Keyed} (e : l[i]? = some p) : ∀ y ∈ l.drop i, key p ≤ key y := by
  intro y hy
  have q : Sd (l.drop i) := h.sublist (List.drop_sublist _ _)
  rw [drop_at e] at hy q
  rcases List.mem_cons.mp hy with rfl | hy
  · exact Int.le_refl _
  · exact (List.pairwise_cons.mp q).1 y hy
theorem Sd.upto {l : List Keyed} (h : Sd l) {i : Nat} {p : Keyed} (e : l[i]? = some p) : ∀ y ∈ l.take (i + 1), key y ≤ key p := by
  intro y hy
  have q : Sd (l.take (i + 1)) := h.sublist (List.take_sublist _ _)
  rw [take_at e] at hy q
  rcases List.mem_append.mp hy with hy | hy
  · exact (List.pairwise_append.mp q).2.2 y hy p (List.mem_singleton.mpr rfl)
  · rw [List.mem_singleton.mp hy]
    exact Int.le_refl _
theorem lst {a : Array Keyed} {i : Nat} : a.toList[i]? = a[i]? := Array.getElem?_toList
/-- what stands merged from the front, and what is left -/
structure Lo (a b out : Array Keyed) (i j : Nat) : Prop where
  pm : (out.toList ++ (a.toList.drop i ++ b.toList.drop j)).Perm (a.toList ++ b.toList)
  sd : Sd out.toList
  le : Le out.toList (a.toList.drop i ++ b.toList.drop j)
theorem Lo.pa {a b out : Array Keyed} {i j : Nat} {p : Keyed} (h : Lo a b out i j) (sa : Sd a.toList) (e : a[i]? = some p) (hb : ∀ y ∈ b.toList.drop j, key p ≤ key y) : Lo a b (out.push p) (i + 1) j := by
  have d := drop_at (lst.trans e)
  have hp : ∀ x ∈ out.toList, key x ≤ key p := fun x hx => h.le x hx p (by rw [d]; simp)
  refine ⟨?_, ?_, ?_⟩
  · rw [Array.toList_push, List.append_assoc]
    have q := h.pm
    rw [d] at q
    exact q
  · rw [Array.toList_push]
    exact List.pairwise_append.mpr ⟨h.sd, List.pairwise_singleton _ _, fun x hx y hy => by rw [List.mem_singleton.mp hy]; exact hp x hx⟩
  · intro x hx y hy
    rw [Array.toList_push] at hx
    rcases List.mem_append.mp hx with hx | hx
    · refine h.le x hx y ?_
      rw [d]
      exact List.mem_cons_of_mem _ hy
    · rw [List.mem_singleton.mp hx]
      rcases List.mem_append.mp hy with hy | hy
      · exact sa.from (lst.trans e) y (by rw [d]; exact List.mem_cons_of_mem _ hy)
      · exact hb y hy
theorem Lo.pb {a b out : Array Keyed} {i j : Nat} {p : Keyed} (h : Lo a b out i j) (sb : Sd b.toList) (e : b[j]? = some p) (ha : ∀ y ∈ a.toList.drop i, key p ≤ key y) : Lo a b (out.push p) i (j + 1) := by
  have d := drop_at (lst.trans e)
  have hp : ∀ x ∈ out.toList, key x ≤ key p := fun x hx => h.le x hx p (by rw [d]; simp)
  refine ⟨?_, ?_, ?_⟩
  · rw [Array.toList_push, List.append_assoc]
    refine List.Perm.trans ?_ h.pm
    rw [d]
    show (out.toList ++ (p :: (a.toList.drop i ++ b.toList.drop (j + 1)))).Perm _
    exact List.Perm.append_left _ List.perm_middle.symm
  · rw [Array.toList_push]
    exact List.pairwise_append.mpr ⟨h.sd, List.pairwise_singleton _ _, fun x hx y hy => by rw [List.mem_singleton.mp hy]; exact hp x hx⟩
  · intro x hx y hy
    rw [Array.toList_push] at hx
    rcases List.mem_append.mp hx with hx | hx
    · refine h.le x hx y ?_
      rw [d]
      rcases List.mem_append.mp hy with hy | hy
      · exact List.mem_append_left _ hy
      · exact List.mem_append_right _ (List.mem_cons_of_mem _ hy)
    · rw [List.mem_singleton.mp hx]
      rcases List.mem_append.mp hy with hy | hy
      · exact ha y hy
      · exact sb.from (lst.trans e) y (by rw [d]; exact List.mem_cons_of_mem _ hy)
theorem ext_list (a : Array Keyed) (i k : Nat) : (a.extract i (i + k)).toList = (a.toList.drop i).take k := by
  rw [Array.toList_extract, List.extract_eq_take_drop, Nat.add_sub_cancel_left]
theorem ext_rest (a : Array Keyed) (i : Nat) : (a.extract i).toList = a.toList.drop i := by
  rw [Array.toList_extract, List.extract_eq_take_drop]
  exact List.take_of_length_le (by rw [List.length_drop, Array.length_toList]; exact Nat.le_refl _)
theorem ext_upto (a : Array Keyed) (n : Nat) : (a.extract 0 n).toList = a.toList.take n := by
  rw [Array.toList_extract, List.extract_eq_take_drop, Nat.sub_zero]
  rfl
theorem ext_succ {a : Array Keyed} {i k : Nat} {p : Keyed} (e : a[i + k]? = some p) (out : Array Keyed) : out ++ a.extract i (i + (k + 1)) = (out ++ a.extract i (i + k)).push p := by
  refine Array.toList_inj.mp ?_
  rw [Array.toList_push, Array.toList_append, Array.toList_append, ext_list, ext_list, take_at (p := p) (by rw [List.getElem?_drop, lst]; exact e), List.append_assoc]
theorem ext_zero (a out : Array Keyed) (i : Nat) : out ++ a.extract i (i + 0) = out := by
  refine Array.toList_inj.mp ?_
  rw [Array.toList_append, ext_list, List.take_zero, List.append_nil]
theorem Lo.ba {a b out : Array Keyed} {i j : Nat} (h : Lo a b out i j) (sa : Sd a.toList) : ∀ k, i + k ≤ a.size → (∀ t, t < k → ∀ y ∈ b.toList.drop j, K a (i + t) ≤ key y) → Lo a b (out ++ a.extract i (i + k)) (i + k) j
  | 0, _, _ => by rw [ext_zero]; exact h
  | k + 1, hk, hb => by
    have e : a[i + k]? = some a[i + k] := getElem?_pos _ _ (by omega)
    rw [ext_succ e]
    refine (h.ba sa k (by omega) fun t ht => hb t (by omega)).pa sa e ?_
    rw [← K_key e]
    exact hb k (by omega)
theorem Lo.bb {a b out : Array Keyed} {i j : Nat} (h : Lo a b out i j) (sb : Sd b.toList) : ∀ k, j + k ≤ b.size → (∀ t, t < k → ∀ y ∈ a.toList.drop i, K b (j + t) ≤ key y) → Lo a b (out ++ b.extract j (j + k)) i (j + k)
  | 0, _, _ => by rw [ext_zero]; exact h
  | k + 1, hk, hb => by
    have e : b[j + k]? = some b[j + k] := getElem?_pos _ _ (by omega)
    rw [ext_succ e]
    refine (h.bb sb k (by omega) fun t ht => hb t (by omega)).pb sb e ?_
    rw [← K_key e]
    exact hb k (by omega)
/-- the whole, merged -/
def Mgd (a b res : Array Keyed) : Prop := res.toList.Perm (a.toList ++ b.toList) ∧ Sd res.toList
theorem Lo.doneB {a b out : Array Keyed} {i j : Nat} (h : Lo a b out i j) (sa : Sd a.toList) (e : b.size ≤ j) : Mgd a b (out ++ a.extract i ++ b.extract j) := by
  have z : b.toList.drop j = [] := List.drop_eq_nil_of_le (by simpa using e)
  have q : (out ++ a.extract i ++ b.extract j).toList = out.toList ++ a.toList.drop i := by
    rw [Array.toList_append, Array.toList_append, ext_rest, ext_rest, z, List.append_nil]
  have p := h.pm
  have l := h.le
  rw [z, List.append_nil] at p l
  refine ⟨by rw [q]; exact p, ?_⟩
  rw [q]
  exact List.pairwise_append.mpr ⟨h.sd, sa.sublist (List.drop_sublist _ _), l⟩
theorem Lo.doneA {a b out : Array Keyed} {i j : Nat} (h : Lo a b out i j) (sb : Sd b.toList) (e : a.size ≤ i) : Mgd a b (out ++ a.extract i ++ b.extract j) := by
  have z : a.toList.drop i = [] := List.drop_eq_nil_of_le (by simpa using e)
  have q : (out ++ a.extract i ++ b.extract j).toList = out.toList ++ b.toList.drop j := by
    rw [Array.toList_append, Array.toList_append, ext_rest, ext_rest, z, List.append_nil]
  have p := h.pm
  have l := h.le
  rw [z, List.nil_append] at p l
  refine ⟨by rw [q]; exact p, ?_⟩
  rw [q]
  exact List.pairwise_append.mpr ⟨h.sd, sb.sublist (List.drop_sublist _ _), l⟩
theorem Lo.last {a b out : Array Keyed} {i j : Nat} (h : Lo a b out i j) (sa : Sd a.toList) (sb : Sd b.toList) (hl : ∀ y ∈ b.toList, key y ≤ K a (a.size - 1)) (e : i + 1 = a.size) : Mgd a b (out ++ b.extract j ++ a.extract i) := by
  have ei : a[i]? = some a[i] := getElem?_pos _ _ (by omega)
  have d := drop_at (lst.trans ei)
  have z : a.toList.drop (i + 1) = [] := List.drop_eq_nil_of_le (by simp; omega)
  rw [z] at d
  have q : (out ++ b.extract j ++ a.extract i).toList = out.toList ++ (b.toList.drop j ++ [a[i]]) := by
    rw [Array.toList_append, Array.toList_append, ext_rest, ext_rest, d, List.append_assoc]
  have p := h.pm
  have l := h.le
  rw [d] at p l
  have ek : K a (a.size - 1) = key a[i] := by rw [← K_key ei]; congr 1; omega
  refine ⟨?_, ?_⟩
  · rw [q]
    exact (List.Perm.append_left _ List.perm_append_comm).trans p
  · rw [q]
    refine List.pairwise_append.mpr ⟨h.sd, List.pairwise_append.mpr ⟨sb.sublist (List.drop_sublist _ _), List.pairwise_singleton _ _, fun x hx y hy => ?_⟩, fun x hx y hy => l x hx y ?_⟩
    · rw [List.mem_singleton.mp hy, ← ek]
      exact hl x (List.mem_of_mem_drop hx)
    · rcases List.mem_append.mp hy with hy | hy
      · exact List.mem_append_right _ hy
      · exact List.mem_append_left _ hy
theorem Lo.start {a b : Array Keyed} {p : Keyed} (sb : Sd b.toList) (e : b[0]? = some p) (ha : ∀ y ∈ a.toList, key p ≤ key y) : Lo a b #[p] 0 1 := by
  have h : Lo a b #[] 0 0 := ⟨List.Perm.refl _, List.Pairwise.nil, fun x hx => absurd hx (by simp)⟩
  exact h.pb sb e ha
/-- the same from the end -/
structure Hi (a b out : Array Keyed) (i j : Nat) : Prop where
  pm : ((a.toList.take i ++ b.toList.take j) ++ out.toList.reverse).Perm (a.toList ++ b.toList)
  sd : Sd out.toList.reverse
  le : Le (a.toList.take i ++ b.toList.take j) out.toList.reverse
theorem Hi.pa {a b out : Array Keyed} {i j : Nat} {p : Keyed} (h : Hi a b out (i + 1) j) (sa : Sd a.toList) (e : a[i]? = some p) (hb : ∀ y ∈ b.toList.take j, key y ≤ key p) : Hi a b (out.push p) i j := by
  have d := take_at (lst.trans e)
  have hr : (out.push p).toList.reverse = p :: out.toList.reverse := by rw [Array.toList_push, List.reverse_append]; rfl
  have hp : ∀ x ∈ out.toList.reverse, key p ≤ key x := fun x hx => h.le p (by rw [d]; simp) x hx
  refine ⟨?_, ?_, ?_⟩
  · rw [hr]
    refine List.Perm.trans ?_ h.pm
    rw [d]
    refine List.perm_middle.trans ?_
    rw [← List.cons_append]
    refine List.Perm.append_right _ ?_
    rw [List.append_assoc]
    exact List.perm_middle.symm
  · rw [hr]
    exact List.pairwise_cons.mpr ⟨hp, h.sd⟩
  · intro x hx y hy
    rw [hr] at hy
    rcases List.mem_cons.mp hy with rfl | hy
    · rcases List.mem_append.mp hx with hx | hx
      · exact sa.upto (lst.trans e) x (by rw [d]; exact List.mem_append_left _ hx)
      · exact hb x hx
    · refine h.le x ?_ y hy
      rw [d]
      rcases List.mem_append.mp hx with hx | hx
      · exact List.mem_append_left _ (List.mem_append_left _ hx)
      · exact List.mem_append_right _ hx
theorem Hi.pb {a b out : Array Keyed} {i j : Nat} {p : Keyed} (h : Hi a b out i (j + 1)) (sb : Sd b.toList) (e : b[j]? = some p) (ha : ∀ y ∈ a.toList.take i, key y ≤ key p) : Hi a b (out.push p) i j := by
  have d := take_at (lst.trans e)
  have hr : (out.push p).toList.reverse = p :: out.toList.reverse := by rw [Array.toList_push, List.reverse_append]; rfl
  have hp : ∀ x ∈ out.toList.reverse, key p ≤ key x := fun x hx => h.le p (by rw [d]; simp) x hx
  refine ⟨?_, ?_, ?_⟩
  · rw [hr]
    refine List.Perm.trans ?_ h.pm
    rw [d, ← List.append_assoc, List.append_assoc (a.toList.take i ++ b.toList.take j)]
    exact List.Perm.refl _
  · rw [hr]
    exact List.pairwise_cons.mpr ⟨hp, h.sd⟩
  · intro x hx y hy
    rw [hr] at hy
    rcases List.mem_cons.mp hy with rfl | hy
    · rcases List.mem_append.mp hx with hx | hx
      · exact ha x hx
      · exact sb.upto (lst.trans e) x (by rw [d]; exact List.mem_append_left _ hx)
    · refine h.le x ?_ y hy
      rw [d]
      rcases List.mem_append.mp hx with hx | hx
      · exact List.mem_append_left _ hx
      · exact List.mem_append_right _ (List.mem_append_left _ hx)
theorem extr_succ {a : Array Keyed} {i k : Nat} {p : Keyed} (e : a[i]? = some p) (out : Array Keyed) : out ++ (a.extract i (i + (k + 1))).reverse = (out ++ (a.extract (i + 1) (i + 1 + k)).reverse).push p := by
  refine Array.toList_inj.mp ?_
  rw [Array.toList_push, Array.toList_append, Array.toList_append, Array.toList_reverse, Array.toList_reverse, ext_list, ext_list, drop_at (lst.trans e), List.take_succ_cons, List.reverse_cons, List.append_assoc]
theorem Hi.ba {a b out : Array Keyed} {j : Nat} (sa : Sd a.toList) : ∀ (k i : Nat), Hi a b out (i + k) j → i + k ≤ a.size → (∀ t, i ≤ t → t < i + k → ∀ y ∈ b.toList.take j, key y ≤ K a t) → Hi a b (out ++ (a.extract i (i + k)).reverse) i j
  | 0, i, h, _, _ => by
    have z : out ++ (a.extract i (i + 0)).reverse = out := by
      refine Array.toList_inj.mp ?_
      rw [Array.toList_append, Array.toList_reverse, ext_list, List.take_zero, List.reverse_nil, List.append_nil]
    rw [z]
    exact h
  | k + 1, i, h, hk, hb => by
    have e : a[i]? = some a[i] := getElem?_pos _ _ (by omega)
    rw [extr_succ e]
    refine (Hi.ba sa k (i + 1) (by rw [Nat.add_right_comm]; exact h) (by omega) fun t h1 h2 => hb t (by omega) (by omega)).pa sa e ?_
    rw [← K_key e]
    exact hb i (Nat.le_refl _) (by omega)
theorem Hi.bb {a b out : Array Keyed} {i : Nat} (sb : Sd b.toList) : ∀ (k j : Nat), Hi a b out i (j + k) → j + k ≤ b.size → (∀ t, j ≤ t → t < j + k → ∀ y ∈ a.toList.take i, key y ≤ K b t) → Hi a b (out ++ (b.extract j (j + k)).reverse) i j
  | 0, j, h, _, _ => by
    have z : out ++ (b.extract j (j + 0)).reverse = out := by
      refine Array.toList_inj.mp ?_
      rw [Array.toList_append, Array.toList_reverse, ext_list, List.take_zero, List.reverse_nil, List.append_nil]
    rw [z]
    exact h
  | k + 1, j, h, hk, hb => by
    have e : b[j]? = some b[j] := getElem?_pos _ _ (by omega)
    rw [extr_succ e]
    refine (Hi.bb sb k (j + 1) (by rw [Nat.add_right_comm]; exact h) (by omega) fun t h1 h2 => hb t (by omega) (by omega)).pb sb e ?_
    rw [← K_key e]
    exact hb j (Nat.le_refl _) (by omega)
theorem Hi.doneA {a b out : Array Keyed} {i j : Nat} (h : Hi a b out i j) (sb : Sd b.toList) (e : i = 0) : Mgd a b (a.extract 0 i ++ b.extract 0 j ++ out.reverse) := by
  subst e
  have q : (a.extract 0 0 ++ b.extract 0 j ++ out.reverse).toList = b.toList.take j ++ out.toList.reverse := by
    rw [Array.toList_append, Array.toList_append, ext_upto, ext_upto, Array.toList_reverse, List.take_zero, List.nil_append]
  have p := h.pm
  have l := h.le
  rw [List.take_zero, List.nil_append] at p l
  refine ⟨by rw [q]; exact p, ?_⟩
  rw [q]
  exact List.pairwise_append.mpr ⟨sb.sublist (List.take_sublist _ _), h.sd, l⟩
theorem Hi.doneB {a b out : Array Keyed} {i j : Nat} (h : Hi a b out i j) (sa : Sd a.toList) (e : j = 0) : Mgd a b (a.extract 0 i ++ b.extract 0 j ++ out.reverse) := by
  subst e
  have q : (a.extract 0 i ++ b.extract 0 0 ++ out.reverse).toList = a.toList.take i ++ out.toList.reverse := by
    rw [Array.toList_append, Array.toList_append, ext_upto, ext_upto, Array.toList_reverse, List.take_zero, List.append_nil]
  have p := h.pm
  have l := h.le
  rw [List.take_zero, List.append_nil] at p l
  refine ⟨by rw [q]; exact p, ?_⟩
  rw [q]
  exact List.pairwise_append.mpr ⟨sa.sublist (List.take_sublist _ _), h.sd, l⟩
theorem Hi.first {a b out : Array Keyed} {i j : Nat} (h : Hi a b out i j) (sa : Sd a.toList) (hb : 1 ≤ b.size) (hl : ∀ y ∈ a.toList, K b 0 ≤ key y) (e : j = 1) : Mgd a b (b.extract 0 j ++ a.extract 0 i ++ out.reverse) := by
  subst e
  have e0 : b[0]? = some b[0] := getElem?_pos _ _ (by omega)
  have d : b.toList.take 1 = [b[0]] := take_at (lst.trans e0)
  have q : (b.extract 0 1 ++ a.extract 0 i ++ out.reverse).toList = ([b[0]] ++ a.toList.take i) ++ out.toList.reverse := by
    rw [Array.toList_append, Array.toList_append, ext_upto, ext_upto, Array.toList_reverse, d]
  have p := h.pm
  have l := h.le
  rw [d] at p l
  refine ⟨?_, ?_⟩
  · rw [q]
    exact (List.Perm.append_right _ List.perm_append_comm).trans p
  · rw [q]
    refine List.pairwise_append.mpr ⟨List.pairwise_append.mpr ⟨List.pairwise_singleton _ _, sa.sublist (List.take_sublist _ _), fun x hx y hy => ?_⟩, h.sd, fun x hx y hy => l x ?_ y hy⟩
    · rw [List.mem_singleton.mp hx, ← K_key e0]
      exact hl y (List.mem_of_mem_take hy)
    · rcases List.mem_append.mp hx with hx | hx
      · exact List.mem_append_right _ hx
      · exact List.mem_append_left _ hx
theorem Hi.start {a b : Array Keyed} {p : Keyed} {n : Nat} (sa : Sd a.toList) (en : a.size = n + 1) (e : a[n]? = some p) (hb : ∀ y ∈ b.toList, key y ≤ key p) : Hi a b #[p] n b.size := by
  have h : Hi a b #[] (n + 1) b.size := by
    have ta : a.toList.take (n + 1) = a.toList := List.take_of_length_le (by simp [en])
    have tb : b.toList.take b.size = b.toList := List.take_of_length_le (by simp)
    refine ⟨?_, List.Pairwise.nil, fun x hx y hy => absurd hy (by simp)⟩
    rw [ta, tb]
    exact List.Perm.of_eq (List.append_nil _)
  refine h.pa sa e fun y hy => hb y (List.mem_of_mem_take hy)
theorem cut_at : ∀ (n : Nat) (f : Nat → Bool), (∀ i j, i ≤ j → j < n → f j = true → f i = true) → ∃ p, p ≤ n ∧ (∀ i, i < p → f i = true) ∧ ∀ i, p ≤ i → i < n → f i = false
  | 0, _, _ => ⟨0, Nat.le_refl _, fun i h => absurd h (by omega), fun i _ h => absurd h (by omega)⟩
  | n + 1, f, h => by
    obtain ⟨p, h1, h2, h3⟩ := cut_at n f fun i j a b c => h i j a (by omega) c
    by_cases e : f n = true
    · exact ⟨n + 1, Nat.le_refl _, fun i hi => h i n (by omega) (by omega) e, fun i a b => absurd b (by omega)⟩
    · refine ⟨p, by omega, h2, fun i a b => ?_⟩
      by_cases hi : i < n
      · exact h3 i a hi
      · obtain rfl : i = n := by omega
        exact Bool.not_eq_true _ ▸ e
theorem Sd.K_le {a : Array Keyed} (sa : Sd a.toList) {i j : Nat} (h : i ≤ j) (hj : j < a.size) : K a i ≤ K a j := by
  have ei : a[i]? = some a[i] := getElem?_pos _ _ (by omega)
  have ej : a[j]? = some a[j] := getElem?_pos a j hj
  rw [K_key ei, K_key ej]
  refine sa.from (lst.trans ei) _ ?_
  have q : (a.toList.drop i)[j - i]? = some a[j] := by
    rw [List.getElem?_drop, lst]
    rw [(by omega : i + (j - i) = j)]
    exact ej
  exact List.mem_of_getElem? q
theorem byd_cut (left : Bool) (x : Int) {a : Array Keyed} (sa : Sd a.toList) {i n : Nat} (h : i + n ≤ a.size) : ∃ p, p ≤ n ∧ (∀ t, t < p → byd left x (K a (i + t)) = true) ∧ ∀ t, p ≤ t → t < n → byd left x (K a (i + t)) = false := by
  refine cut_at n (fun t => byd left x (K a (i + t))) fun u v h1 h2 h3 => ?_
  have q := sa.K_le (i := i + u) (j := i + v) (by omega) (by omega)
  cases left with
  | true =>
    have h3 : K a (i + v) < x := of_decide_eq_true h3
    exact decide_eq_true (by omega)
  | false =>
    have h3 : ¬ x < K a (i + v) := by
      intro z
      have h3 : (!decide (x < K a (i + v))) = true := h3
      rw [decide_eq_true z] at h3
      cases h3
    show (!decide (x < K a (i + u))) = true
    rw [decide_eq_false (by omega)]
    rfl
theorem byd_L {x y : Int} : (byd true x y = true → y < x) ∧ (byd true x y = false → x ≤ y) := ⟨fun h => of_decide_eq_true h, fun h => by have := of_decide_eq_false h; omega⟩
theorem byd_R {x y : Int} : (byd false x y = true → y ≤ x) ∧ (byd false x y = false → x < y) := by
  refine ⟨fun h => ?_, fun h => ?_⟩
  · have h : (!decide (x < y)) = true := h
    by_cases z : x < y
    · rw [decide_eq_true z] at h
      cases h
    · omega
  · have h : (!decide (x < y)) = false := h
    by_cases z : x < y
    · exact z
    · rw [decide_eq_false z] at h
      cases h
end Srt

set_option Elab.async false
set_option linter.all false
set_option maxRecDepth 100000
set_option maxHeartbeats 1000000
namespace Srt
open PySem PyProof.Rows
/-- but for the search's own counter -/
abbrev Sm (st st' : SortSt) : Prop := kindOf st' = kindOf st ∧ arrOf st' = arrOf st ∧ pendingOf st' = pendingOf st ∧ failedOf st' = failedOf st
section
variable {prog : Program} {w : World} {A : Around} {E : Value → Shared → Prop} {s : Shared}
theorem wpS_mLo {a b : Array Keyed} {st : SortSt} {Q : Array Keyed → SortSt → Prop} (ha : IntKeys a) (hb : IntKeys b) (sa : Sd a.toList) (sb : Sd b.toList) (hk : kindOf st = oneType') (na : 1 ≤ a.size) (nb : 1 ≤ b.size)
    (hf : ∀ y ∈ a.toList, K b 0 ≤ key y) (hl : ∀ y ∈ b.toList, key y ≤ K a (a.size - 1)) (h : ∀ r st', Sm st st' → Mgd a b r → Q r st') : wpS (model prog w) A E s (mLo a b) Q st := by
  refine wpS_bind (wpS_lift (wpAny_rule ⟨rfl, ?_⟩))
  obtain ⟨t0, q0, e0⟩ := keyAt hb (i := 0) nb
  refine wpS_bind (wpS_elem e0 ?_)
  dsimp only
  have lo0 := Lo.start (a := a) sb e0 hf
  by_cases c1 : (1 == b.size) = true
  · rw [if_pos c1]
    exact wpS_pure (h _ _ ⟨rfl, rfl, rfl, rfl⟩ (lo0.doneB sa (by have := beq_iff_eq.mp c1; omega)))
  rw [if_neg c1]
  have m1 : ¬ 1 = b.size := fun z => c1 (beq_iff_eq.mpr z)
  by_cases c2 : (0 + 1 == a.size) = true
  · rw [if_pos c2]
    exact wpS_pure (h _ _ ⟨rfl, rfl, rfl, rfl⟩ (lo0.last sa sb hl (beq_iff_eq.mp c2)))
  rw [if_neg c2]
  have m2 : ¬ 0 + 1 = a.size := fun z => c2 (beq_iff_eq.mpr z)
  refine wpS_bind (wpS_get ?_)
  refine wpS_bind (wpS_mono (wpS_forRange (I := fun k c st' => Sm st st' ∧ ∃ out i j g, c = (none, out, i, j, g) ∧ Lo a b out i j ∧ i + 1 < a.size ∧ j < b.size ∧ k ≤ i + j)
    (Q := fun c st' => Sm st st' ∧ ∃ r out i j g, c = (some r, out, i, j, g) ∧ Mgd a b r) ?step ?fin ⟨⟨rfl, rfl, rfl, rfl⟩, _, 0, 1, _, rfl, lo0, by omega, by omega, by omega⟩) ?post)
  case post =>
    rintro c st' ⟨sm, r, out, i, j, g, rfl, mg⟩
    exact wpS_pure (h r st' sm mg)
  case fin =>
    rintro c st' ⟨sm, out, i, j, g, rfl, lo, hi, hj, hn⟩
    exfalso
    omega
  case step =>
    rintro k c st' _ hkn ⟨sm, out, i, j, g, rfl, lo, hi, hj, hn⟩
    dsimp only
    refine wpS_bind (wpS_mono (wpS_forRange (I := fun t c st'' => st'' = st' ∧ ∃ o i' j' u v, c = (none, o, i', j', u, v) ∧ Lo a b o i' j' ∧ i' + 1 < a.size ∧ j' < b.size ∧ i + j + t ≤ i' + j')
      (Q := fun c st'' => st'' = st' ∧ ∃ r o i' j' u v, c = (r, o, i', j', u, v) ∧ ((∃ z, r = some z ∧ Mgd a b z) ∨ (r = none ∧ Lo a b o i' j' ∧ i' + 1 < a.size ∧ j' < b.size ∧ i + j < i' + j'))) ?step1 ?fin1 ⟨rfl, out, i, j, 0, 0, rfl, lo, hi, hj, Nat.le_refl _⟩) ?post1)
    case fin1 =>
      rintro c st'' ⟨rfl, o, i', j', u, v, rfl, lo', hi', hj', hp'⟩
      exfalso
      omega
    case step1 =>
      rintro t c st'' _ _ ⟨rfl, o, i', j', u, v, rfl, lo', hi', hj', hp'⟩
      dsimp only
      obtain ⟨tb, qb, eb⟩ := keyAt hb hj'
      obtain ⟨ta, qa, ea⟩ := keyAt ha (i := i') (by omega)
      refine wpS_bind (wpS_elem eb ?_)
      refine wpS_bind (wpS_elem ea ?_)
      refine wpS_bind (wpS_lt (sm.1.trans hk) ?_)
      dsimp only
      by_cases hw : K b j' < K a i'
      · rw [if_pos (decide_eq_true hw)]
        refine wpS_bind (wpS_elem eb ?_)
        have lo2 := lo'.pb sb eb fun y hy => Int.le_trans (Int.le_of_lt hw) (sa.from (lst.trans ea) y hy)
        by_cases e1 : (j' + 1 == b.size) = true
        · rw [if_pos e1]
          exact wpS_pure ⟨rfl, _, _, _, _, _, _, rfl, .inl ⟨_, rfl, lo2.doneB sa (by have := beq_iff_eq.mp e1; omega)⟩⟩
        · rw [if_neg e1]
          have n1 : ¬ j' + 1 = b.size := fun z => e1 (beq_iff_eq.mpr z)
          by_cases e2 : v + 1 ≥ g
          · rw [if_pos e2]
            exact wpS_pure ⟨rfl, _, _, _, _, _, _, rfl, .inr ⟨rfl, lo2, hi', by omega, by omega⟩⟩
          · rw [if_neg e2]
            exact wpS_pure ⟨rfl, _, _, _, _, _, rfl, lo2, hi', by omega, by omega⟩
      · rw [if_neg (fun z => hw (of_decide_eq_true z))]
        refine wpS_bind (wpS_elem ea ?_)
        have lo2 := lo'.pa sa ea fun y hy => Int.le_trans (Int.not_lt.mp hw) (sb.from (lst.trans eb) y hy)
        by_cases e1 : (i' + 1 + 1 == a.size) = true
        · rw [if_pos e1]
          exact wpS_pure ⟨rfl, _, _, _, _, _, _, rfl, .inl ⟨_, rfl, lo2.last sa sb hl (beq_iff_eq.mp e1)⟩⟩
        · rw [if_neg e1]
          have n1 : ¬ i' + 1 + 1 = a.size := fun z => e1 (beq_iff_eq.mpr z)
          by_cases e2 : u + 1 ≥ g
          · rw [if_pos e2]
            exact wpS_pure ⟨rfl, _, _, _, _, _, _, rfl, .inr ⟨rfl, lo2, by omega, hj', by omega⟩⟩
          · rw [if_neg e2]
            exact wpS_pure ⟨rfl, _, _, _, _, _, rfl, lo2, by omega, hj', by omega⟩
    case post1 =>
      rintro c st'' ⟨rfl, r, o, i', j', u, v, rfl, hz⟩
      rcases hz with ⟨z, rfl, mg⟩ | ⟨rfl, lo', hi', hj', hp'⟩
      · exact wpS_pure ⟨sm, z, _, _, _, _, rfl, mg⟩
      · dsimp only
        refine wpS_bind (wpS_lift (wpAny_rule ⟨rfl, ?_⟩))
        refine wpS_bind (wpS_mono (wpS_forRange (I := fun t c s3 => Sm st s3 ∧ ∃ o i' j' m u v, c = (none, o, i', j', m, u, v) ∧ Lo a b o i' j' ∧ i' + 1 < a.size ∧ j' < b.size ∧ i + j + 1 + t ≤ i' + j')
          (Q := fun c s3 => Sm st s3 ∧ ∃ r o i' j' m u v, c = (r, o, i', j', m, u, v) ∧ ((∃ z, r = some z ∧ Mgd a b z) ∨ (r = none ∧ Lo a b o i' j' ∧ i' + 1 < a.size ∧ j' < b.size ∧ i + j < i' + j'))) ?step2 ?fin2 ⟨sm, o, i', j', _, u, v, rfl, lo', hi', hj', by omega⟩) ?post2)
        case fin2 =>
          rintro c s3 ⟨sm3, o, i', j', m, u, v, rfl, lo', hi', hj', hp'⟩
          exfalso
          omega
        case post2 =>
          rintro c s3 ⟨sm3, r, o, i', j', m, u, v, rfl, hz⟩
          rcases hz with ⟨z, rfl, mg⟩ | ⟨rfl, lo', hi', hj', hp'⟩
          · exact wpS_pure ⟨sm3, z, _, _, _, _, rfl, mg⟩
          · dsimp only
            refine wpS_bind (wpS_modify ?_)
            exact wpS_pure ⟨sm3, _, _, _, _, rfl, lo', hi', hj', by omega⟩
        case step2 =>
          clear lo' hi' hj' hp'
          rintro t c s3 _ _ ⟨sm3, o, i', j', m, u, v, rfl, lo', hi', hj', hp'⟩
          dsimp only
          obtain ⟨tb, qb, eb⟩ := keyAt hb hj'
          by_cases g1 : m > 1
          · rw [if_pos g1]
            refine wpS_bind (wpS_modify ?_)
            refine wpS_bind (wpS_elem eb ?_)
            obtain ⟨p, hp, p1, p2⟩ := byd_cut false (K b j') sa (i := i') (n := a.size - i') (by omega)
            refine wpS_bind (wpS_gal ha (sm3.1.trans hk) (by omega) (by omega) hp p1 p2 ?_)
            dsimp only
            by_cases k0 : p > 0
            · rw [if_pos k0]
              have lo2 := lo'.ba sa p (by omega) fun t ht y hy => Int.le_trans (byd_R.1 (p1 t ht)) (sb.from (lst.trans eb) y hy)
              by_cases e1 : (i' + p + 1 == a.size) = true
              · rw [if_pos e1]
                exact wpS_pure ⟨sm3, _, _, _, _, _, _, _, rfl, .inl ⟨_, rfl, lo2.last sa sb hl (beq_iff_eq.mp e1)⟩⟩
              · rw [if_neg e1]
                have n1 : ¬ i' + p + 1 = a.size := fun z => e1 (beq_iff_eq.mpr z)
                by_cases e2 : (i' + p == a.size) = true
                · rw [if_pos e2]
                  exact wpS_pure ⟨sm3, _, _, _, _, _, _, _, rfl, .inl ⟨_, rfl, lo2.doneA sb (by have := beq_iff_eq.mp e2; omega)⟩⟩
                · rw [if_neg e2]
                  have n2 : ¬ i' + p = a.size := fun z => e2 (beq_iff_eq.mpr z)
                  refine wpS_bind (wpS_elem eb ?_)
                  obtain ⟨ta, qa, ea⟩ := keyAt ha (i := i' + p) (by omega)
                  have lo3 := lo2.pb sb eb fun y hy => by
                    have z := byd_R.2 (p2 p (Nat.le_refl _) (by omega))
                    exact Int.le_trans (Int.le_of_lt z) (sa.from (lst.trans ea) y hy)
                  by_cases e3 : (j' + 1 == b.size) = true
                  · rw [if_pos e3]
                    exact wpS_pure ⟨sm3, _, _, _, _, _, _, _, rfl, .inl ⟨_, rfl, lo3.doneB sa (by have := beq_iff_eq.mp e3; omega)⟩⟩
                  · rw [if_neg e3]
                    have n3 : ¬ j' + 1 = b.size := fun z => e3 (beq_iff_eq.mpr z)
                    refine wpS_bind (wpS_elem ea ?_)
                    obtain ⟨r, hr, r1, r2⟩ := byd_cut true (K a (i' + p)) sb (i := j' + 1) (n := b.size - (j' + 1)) (by omega)
                    refine wpS_bind (wpS_gal hb (sm3.1.trans hk) (by omega) (by omega) hr r1 r2 ?_)
                    dsimp only
                    by_cases k1 : r > 0
                    · rw [if_pos k1]
                      have lo4 := lo3.bb sb r (by omega) fun t ht y hy => Int.le_trans (Int.le_of_lt (byd_L.1 (r1 t ht))) (sa.from (lst.trans ea) y hy)
                      by_cases e4 : (j' + 1 + r == b.size) = true
                      · rw [if_pos e4]
                        exact wpS_pure ⟨sm3, _, _, _, _, _, _, _, rfl, .inl ⟨_, rfl, lo4.doneB sa (by have := beq_iff_eq.mp e4; omega)⟩⟩
                      · rw [if_neg e4]
                        have n4 : ¬ j' + 1 + r = b.size := fun z => e4 (beq_iff_eq.mpr z)
                        refine wpS_bind (wpS_elem ea ?_)
                        have ej : b[j' + 1 + r]? = some b[j' + 1 + r] := getElem?_pos _ _ (by omega)
                        have lo5 := lo4.pa sa ea fun y hy => by
                          have z := byd_L.2 (r2 r (Nat.le_refl _) (by omega))
                          have z2 := sb.from (lst.trans ej) y hy
                          rw [← K_key ej] at z2
                          exact Int.le_trans z z2
                        by_cases e5 : (i' + p + 1 + 1 == a.size) = true
                        · rw [if_pos e5]
                          exact wpS_pure ⟨sm3, _, _, _, _, _, _, _, rfl, .inl ⟨_, rfl, lo5.last sa sb hl (beq_iff_eq.mp e5)⟩⟩
                        · rw [if_neg e5]
                          have n5 : ¬ i' + p + 1 + 1 = a.size := fun z => e5 (beq_iff_eq.mpr z)
                          by_cases e6 : (decide (p < 7) && decide (r < 7)) = true
                          · rw [if_pos e6]
                            exact wpS_pure ⟨sm3, _, _, _, _, _, _, _, rfl, .inr ⟨rfl, lo5, by omega, by omega, by omega⟩⟩
                          · rw [if_neg e6]
                            exact wpS_pure ⟨sm3, _, _, _, _, _, _, rfl, lo5, by omega, by omega, by omega⟩
                    · rw [if_neg k1]
                      obtain rfl : r = 0 := by omega
                      refine wpS_bind (wpS_elem ea ?_)
                      have ej : b[j' + 1]? = some b[j' + 1] := getElem?_pos _ _ (by omega)
                      have lo5 := lo3.pa sa ea fun y hy => by
                        have z := byd_L.2 (r2 0 (Nat.le_refl _) (by omega))
                        have z2 := sb.from (lst.trans ej) y hy
                        rw [← K_key ej] at z2
                        exact Int.le_trans z z2
                      by_cases e5 : (i' + p + 1 + 1 == a.size) = true
                      · rw [if_pos e5]
                        exact wpS_pure ⟨sm3, _, _, _, _, _, _, _, rfl, .inl ⟨_, rfl, lo5.last sa sb hl (beq_iff_eq.mp e5)⟩⟩
                      · rw [if_neg e5]
                        have n5 : ¬ i' + p + 1 + 1 = a.size := fun z => e5 (beq_iff_eq.mpr z)
                        by_cases e6 : (decide (p < 7) && decide (0 < 7)) = true
                        · rw [if_pos e6]
                          exact wpS_pure ⟨sm3, _, _, _, _, _, _, _, rfl, .inr ⟨rfl, lo5, by omega, by omega, by omega⟩⟩
                        · rw [if_neg e6]
                          exact wpS_pure ⟨sm3, _, _, _, _, _, _, rfl, lo5, by omega, by omega, by omega⟩
            · rw [if_neg k0]
              obtain rfl : p = 0 := by omega
              refine wpS_bind (wpS_elem eb ?_)
              obtain ⟨ta, qa, ea⟩ := keyAt ha (i := i') (by omega)
              have lo3 := lo'.pb sb eb fun y hy => by
                have z := byd_R.2 (p2 0 (Nat.le_refl _) (by omega))
                exact Int.le_trans (Int.le_of_lt z) (sa.from (lst.trans ea) y hy)
              by_cases e3 : (j' + 1 == b.size) = true
              · rw [if_pos e3]
                exact wpS_pure ⟨sm3, _, _, _, _, _, _, _, rfl, .inl ⟨_, rfl, lo3.doneB sa (by have := beq_iff_eq.mp e3; omega)⟩⟩
              · rw [if_neg e3]
                have n3 : ¬ j' + 1 = b.size := fun z => e3 (beq_iff_eq.mpr z)
                refine wpS_bind (wpS_elem ea ?_)
                obtain ⟨r, hr, r1, r2⟩ := byd_cut true (K a (i')) sb (i := j' + 1) (n := b.size - (j' + 1)) (by omega)
                refine wpS_bind (wpS_gal hb (sm3.1.trans hk) (by omega) (by omega) hr r1 r2 ?_)
                dsimp only
                by_cases k1 : r > 0
                · rw [if_pos k1]
                  have lo4 := lo3.bb sb r (by omega) fun t ht y hy => Int.le_trans (Int.le_of_lt (byd_L.1 (r1 t ht))) (sa.from (lst.trans ea) y hy)
                  by_cases e4 : (j' + 1 + r == b.size) = true
                  · rw [if_pos e4]
                    exact wpS_pure ⟨sm3, _, _, _, _, _, _, _, rfl, .inl ⟨_, rfl, lo4.doneB sa (by have := beq_iff_eq.mp e4; omega)⟩⟩
                  · rw [if_neg e4]
                    have n4 : ¬ j' + 1 + r = b.size := fun z => e4 (beq_iff_eq.mpr z)
                    refine wpS_bind (wpS_elem ea ?_)
                    have ej : b[j' + 1 + r]? = some b[j' + 1 + r] := getElem?_pos _ _ (by omega)
                    have lo5 := lo4.pa sa ea fun y hy => by
                      have z := byd_L.2 (r2 r (Nat.le_refl _) (by omega))
                      have z2 := sb.from (lst.trans ej) y hy
                      rw [← K_key ej] at z2
                      exact Int.le_trans z z2
                    by_cases e5 : (i' + 1 + 1 == a.size) = true
                    · rw [if_pos e5]
                      exact wpS_pure ⟨sm3, _, _, _, _, _, _, _, rfl, .inl ⟨_, rfl, lo5.last sa sb hl (beq_iff_eq.mp e5)⟩⟩
                    · rw [if_neg e5]
                      have n5 : ¬ i' + 1 + 1 = a.size := fun z => e5 (beq_iff_eq.mpr z)
                      by_cases e6 : (decide (0 < 7) && decide (r < 7)) = true
                      · rw [if_pos e6]
                        exact wpS_pure ⟨sm3, _, _, _, _, _, _, _, rfl, .inr ⟨rfl, lo5, by omega, by omega, by omega⟩⟩
                      · rw [if_neg e6]
                        exact wpS_pure ⟨sm3, _, _, _, _, _, _, rfl, lo5, by omega, by omega, by omega⟩
                · rw [if_neg k1]
                  obtain rfl : r = 0 := by omega
                  refine wpS_bind (wpS_elem ea ?_)
                  have ej : b[j' + 1]? = some b[j' + 1] := getElem?_pos _ _ (by omega)
                  have lo5 := lo3.pa sa ea fun y hy => by
                    have z := byd_L.2 (r2 0 (Nat.le_refl _) (by omega))
                    have z2 := sb.from (lst.trans ej) y hy
                    rw [← K_key ej] at z2
                    exact Int.le_trans z z2
                  by_cases e5 : (i' + 1 + 1 == a.size) = true
                  · rw [if_pos e5]
                    exact wpS_pure ⟨sm3, _, _, _, _, _, _, _, rfl, .inl ⟨_, rfl, lo5.last sa sb hl (beq_iff_eq.mp e5)⟩⟩
                  · rw [if_neg e5]
                    have n5 : ¬ i' + 1 + 1 = a.size := fun z => e5 (beq_iff_eq.mpr z)
                    by_cases e6 : (decide (0 < 7) && decide (0 < 7)) = true
                    · rw [if_pos e6]
                      exact wpS_pure ⟨sm3, _, _, _, _, _, _, _, rfl, .inr ⟨rfl, lo5, by omega, by omega, by omega⟩⟩
                    · rw [if_neg e6]
                      exact wpS_pure ⟨sm3, _, _, _, _, _, _, rfl, lo5, by omega, by omega, by omega⟩
          · rw [if_neg g1]
            refine wpS_bind (wpS_modify ?_)
            refine wpS_bind (wpS_elem eb ?_)
            obtain ⟨p, hp, p1, p2⟩ := byd_cut false (K b j') sa (i := i') (n := a.size - i') (by omega)
            refine wpS_bind (wpS_gal ha (sm3.1.trans hk) (by omega) (by omega) hp p1 p2 ?_)
            dsimp only
            by_cases k0 : p > 0
            · rw [if_pos k0]
              have lo2 := lo'.ba sa p (by omega) fun t ht y hy => Int.le_trans (byd_R.1 (p1 t ht)) (sb.from (lst.trans eb) y hy)
              by_cases e1 : (i' + p + 1 == a.size) = true
              · rw [if_pos e1]
                exact wpS_pure ⟨sm3, _, _, _, _, _, _, _, rfl, .inl ⟨_, rfl, lo2.last sa sb hl (beq_iff_eq.mp e1)⟩⟩
              · rw [if_neg e1]
                have n1 : ¬ i' + p + 1 = a.size := fun z => e1 (beq_iff_eq.mpr z)
                by_cases e2 : (i' + p == a.size) = true
                · rw [if_pos e2]
                  exact wpS_pure ⟨sm3, _, _, _, _, _, _, _, rfl, .inl ⟨_, rfl, lo2.doneA sb (by have := beq_iff_eq.mp e2; omega)⟩⟩
                · rw [if_neg e2]
                  have n2 : ¬ i' + p = a.size := fun z => e2 (beq_iff_eq.mpr z)
                  refine wpS_bind (wpS_elem eb ?_)
                  obtain ⟨ta, qa, ea⟩ := keyAt ha (i := i' + p) (by omega)
                  have lo3 := lo2.pb sb eb fun y hy => by
                    have z := byd_R.2 (p2 p (Nat.le_refl _) (by omega))
                    exact Int.le_trans (Int.le_of_lt z) (sa.from (lst.trans ea) y hy)
                  by_cases e3 : (j' + 1 == b.size) = true
                  · rw [if_pos e3]
                    exact wpS_pure ⟨sm3, _, _, _, _, _, _, _, rfl, .inl ⟨_, rfl, lo3.doneB sa (by have := beq_iff_eq.mp e3; omega)⟩⟩
                  · rw [if_neg e3]
                    have n3 : ¬ j' + 1 = b.size := fun z => e3 (beq_iff_eq.mpr z)
                    refine wpS_bind (wpS_elem ea ?_)
                    obtain ⟨r, hr, r1, r2⟩ := byd_cut true (K a (i' + p)) sb (i := j' + 1) (n := b.size - (j' + 1)) (by omega)
                    refine wpS_bind (wpS_gal hb (sm3.1.trans hk) (by omega) (by omega) hr r1 r2 ?_)
                    dsimp only
                    by_cases k1 : r > 0
                    · rw [if_pos k1]
                      have lo4 := lo3.bb sb r (by omega) fun t ht y hy => Int.le_trans (Int.le_of_lt (byd_L.1 (r1 t ht))) (sa.from (lst.trans ea) y hy)
                      by_cases e4 : (j' + 1 + r == b.size) = true
                      · rw [if_pos e4]
                        exact wpS_pure ⟨sm3, _, _, _, _, _, _, _, rfl, .inl ⟨_, rfl, lo4.doneB sa (by have := beq_iff_eq.mp e4; omega)⟩⟩
                      · rw [if_neg e4]
                        have n4 : ¬ j' + 1 + r = b.size := fun z => e4 (beq_iff_eq.mpr z)
                        refine wpS_bind (wpS_elem ea ?_)
                        have ej : b[j' + 1 + r]? = some b[j' + 1 + r] := getElem?_pos _ _ (by omega)
                        have lo5 := lo4.pa sa ea fun y hy => by
                          have z := byd_L.2 (r2 r (Nat.le_refl _) (by omega))
                          have z2 := sb.from (lst.trans ej) y hy
                          rw [← K_key ej] at z2
                          exact Int.le_trans z z2
                        by_cases e5 : (i' + p + 1 + 1 == a.size) = true
                        · rw [if_pos e5]
                          exact wpS_pure ⟨sm3, _, _, _, _, _, _, _, rfl, .inl ⟨_, rfl, lo5.last sa sb hl (beq_iff_eq.mp e5)⟩⟩
                        · rw [if_neg e5]
                          have n5 : ¬ i' + p + 1 + 1 = a.size := fun z => e5 (beq_iff_eq.mpr z)
                          by_cases e6 : (decide (p < 7) && decide (r < 7)) = true
                          · rw [if_pos e6]
                            exact wpS_pure ⟨sm3, _, _, _, _, _, _, _, rfl, .inr ⟨rfl, lo5, by omega, by omega, by omega⟩⟩
                          · rw [if_neg e6]
                            exact wpS_pure ⟨sm3, _, _, _, _, _, _, rfl, lo5, by omega, by omega, by omega⟩
                    · rw [if_neg k1]
                      obtain rfl : r = 0 := by omega
                      refine wpS_bind (wpS_elem ea ?_)
                      have ej : b[j' + 1]? = some b[j' + 1] := getElem?_pos _ _ (by omega)
                      have lo5 := lo3.pa sa ea fun y hy => by
                        have z := byd_L.2 (r2 0 (Nat.le_refl _) (by omega))
                        have z2 := sb.from (lst.trans ej) y hy
                        rw [← K_key ej] at z2
                        exact Int.le_trans z z2
                      by_cases e5 : (i' + p + 1 + 1 == a.size) = true
                      · rw [if_pos e5]
                        exact wpS_pure ⟨sm3, _, _, _, _, _, _, _, rfl, .inl ⟨_, rfl, lo5.last sa sb hl (beq_iff_eq.mp e5)⟩⟩
                      · rw [if_neg e5]
                        have n5 : ¬ i' + p + 1 + 1 = a.size := fun z => e5 (beq_iff_eq.mpr z)
                        by_cases e6 : (decide (p < 7) && decide (0 < 7)) = true
                        · rw [if_pos e6]
                          exact wpS_pure ⟨sm3, _, _, _, _, _, _, _, rfl, .inr ⟨rfl, lo5, by omega, by omega, by omega⟩⟩
                        · rw [if_neg e6]
                          exact wpS_pure ⟨sm3, _, _, _, _, _, _, rfl, lo5, by omega, by omega, by omega⟩
            · rw [if_neg k0]
              obtain rfl : p = 0 := by omega
              refine wpS_bind (wpS_elem eb ?_)
              obtain ⟨ta, qa, ea⟩ := keyAt ha (i := i') (by omega)
              have lo3 := lo'.pb sb eb fun y hy => by
                have z := byd_R.2 (p2 0 (Nat.le_refl _) (by omega))
                exact Int.le_trans (Int.le_of_lt z) (sa.from (lst.trans ea) y hy)
              by_cases e3 : (j' + 1 == b.size) = true
              · rw [if_pos e3]
                exact wpS_pure ⟨sm3, _, _, _, _, _, _, _, rfl, .inl ⟨_, rfl, lo3.doneB sa (by have := beq_iff_eq.mp e3; omega)⟩⟩
              · rw [if_neg e3]
                have n3 : ¬ j' + 1 = b.size := fun z => e3 (beq_iff_eq.mpr z)
                refine wpS_bind (wpS_elem ea ?_)
                obtain ⟨r, hr, r1, r2⟩ := byd_cut true (K a (i')) sb (i := j' + 1) (n := b.size - (j' + 1)) (by omega)
                refine wpS_bind (wpS_gal hb (sm3.1.trans hk) (by omega) (by omega) hr r1 r2 ?_)
                dsimp only
                by_cases k1 : r > 0
                · rw [if_pos k1]
                  have lo4 := lo3.bb sb r (by omega) fun t ht y hy => Int.le_trans (Int.le_of_lt (byd_L.1 (r1 t ht))) (sa.from (lst.trans ea) y hy)
                  by_cases e4 : (j' + 1 + r == b.size) = true
                  · rw [if_pos e4]
                    exact wpS_pure ⟨sm3, _, _, _, _, _, _, _, rfl, .inl ⟨_, rfl, lo4.doneB sa (by have := beq_iff_eq.mp e4; omega)⟩⟩
                  · rw [if_neg e4]
                    have n4 : ¬ j' + 1 + r = b.size := fun z => e4 (beq_iff_eq.mpr z)
                    refine wpS_bind (wpS_elem ea ?_)
                    have ej : b[j' + 1 + r]? = some b[j' + 1 + r] := getElem?_pos _ _ (by omega)
                    have lo5 := lo4.pa sa ea fun y hy => by
                      have z := byd_L.2 (r2 r (Nat.le_refl _) (by omega))
                      have z2 := sb.from (lst.trans ej) y hy
                      rw [← K_key ej] at z2
                      exact Int.le_trans z z2
                    by_cases e5 : (i' + 1 + 1 == a.size) = true
                    · rw [if_pos e5]
                      exact wpS_pure ⟨sm3, _, _, _, _, _, _, _, rfl, .inl ⟨_, rfl, lo5.last sa sb hl (beq_iff_eq.mp e5)⟩⟩
                    · rw [if_neg e5]
                      have n5 : ¬ i' + 1 + 1 = a.size := fun z => e5 (beq_iff_eq.mpr z)
                      by_cases e6 : (decide (0 < 7) && decide (r < 7)) = true
                      · rw [if_pos e6]
                        exact wpS_pure ⟨sm3, _, _, _, _, _, _, _, rfl, .inr ⟨rfl, lo5, by omega, by omega, by omega⟩⟩
                      · rw [if_neg e6]
                        exact wpS_pure ⟨sm3, _, _, _, _, _, _, rfl, lo5, by omega, by omega, by omega⟩
                · rw [if_neg k1]
                  obtain rfl : r = 0 := by omega
                  refine wpS_bind (wpS_elem ea ?_)
                  have ej : b[j' + 1]? = some b[j' + 1] := getElem?_pos _ _ (by omega)
                  have lo5 := lo3.pa sa ea fun y hy => by
                    have z := byd_L.2 (r2 0 (Nat.le_refl _) (by omega))
                    have z2 := sb.from (lst.trans ej) y hy
                    rw [← K_key ej] at z2
                    exact Int.le_trans z z2
                  by_cases e5 : (i' + 1 + 1 == a.size) = true
                  · rw [if_pos e5]
                    exact wpS_pure ⟨sm3, _, _, _, _, _, _, _, rfl, .inl ⟨_, rfl, lo5.last sa sb hl (beq_iff_eq.mp e5)⟩⟩
                  · rw [if_neg e5]
                    have n5 : ¬ i' + 1 + 1 = a.size := fun z => e5 (beq_iff_eq.mpr z)
                    by_cases e6 : (decide (0 < 7) && decide (0 < 7)) = true
                    · rw [if_pos e6]
                      exact wpS_pure ⟨sm3, _, _, _, _, _, _, _, rfl, .inr ⟨rfl, lo5, by omega, by omega, by omega⟩⟩
                    · rw [if_neg e6]
                      exact wpS_pure ⟨sm3, _, _, _, _, _, _, rfl, lo5, by omega, by omega, by omega⟩
end
end Srt

set_option Elab.async false
set_option linter.all false
set_option maxRecDepth 100000
set_option maxHeartbeats 1000000
namespace Srt
open PySem PyProof.Rows
theorem Hi.pa' {a b out : Array Keyed} {i j : Nat} {p : Keyed} (h : Hi a b out i j) (sa : Sd a.toList) (hi : 1 ≤ i) (e : a[i - 1]? = some p) (hb : ∀ y ∈ b.toList.take j, key y ≤ key p) : Hi a b (out.push p) (i - 1) j := by
  obtain ⟨n, rfl⟩ : ∃ n, i = n + 1 := ⟨i - 1, by omega⟩
  exact h.pa sa e hb
theorem Hi.pb' {a b out : Array Keyed} {i j : Nat} {p : Keyed} (h : Hi a b out i j) (sb : Sd b.toList) (hj : 1 ≤ j) (e : b[j - 1]? = some p) (ha : ∀ y ∈ a.toList.take i, key y ≤ key p) : Hi a b (out.push p) i (j - 1) := by
  obtain ⟨n, rfl⟩ : ∃ n, j = n + 1 := ⟨j - 1, by omega⟩
  exact h.pb sb e ha
theorem Hi.ba' {a b out : Array Keyed} {i j m : Nat} (h : Hi a b out m j) (sa : Sd a.toList) (hm : i ≤ m) (hs : m ≤ a.size) (hb : ∀ t, i ≤ t → t < m → ∀ y ∈ b.toList.take j, key y ≤ K a t) : Hi a b (out ++ (a.extract i m).reverse) i j := by
  obtain ⟨k, rfl⟩ : ∃ k, m = i + k := ⟨m - i, by omega⟩
  exact Hi.ba sa k i h hs hb
theorem Hi.bb' {a b out : Array Keyed} {i j m : Nat} (h : Hi a b out i m) (sb : Sd b.toList) (hm : j ≤ m) (hs : m ≤ b.size) (hb : ∀ t, j ≤ t → t < m → ∀ y ∈ a.toList.take i, key y ≤ K b t) : Hi a b (out ++ (b.extract j m).reverse) i j := by
  obtain ⟨k, rfl⟩ : ∃ k, m = j + k := ⟨m - j, by omega⟩
  exact Hi.bb sb k j h hs hb
section
variable {prog : Program} {w : World} {A : Around} {E : Value → Shared → Prop} {s : Shared}
theorem wpS_ite {α : Type} {M : Model} {c : Prop} [Decidable c] {t e : StateT SortSt Sem α} {Q : α → SortSt → Prop} {st : SortSt} (h1 : c → wpS M A E s t Q st) (h2 : ¬ c → wpS M A E s e Q st) : wpS M A E s (if c then t else e) Q st := by
  by_cases h : c
  · rw [if_pos h]
    exact h1 h
  · rw [if_neg h]
    exact h2 h
theorem wpS_mHi {a b : Array Keyed} {st : SortSt} {Q : Array Keyed → SortSt → Prop} (ha : IntKeys a) (hb : IntKeys b) (sa : Sd a.toList) (sb : Sd b.toList) (hk : kindOf st = oneType') (na : 1 ≤ a.size) (nb : 1 ≤ b.size)
    (hf : ∀ y ∈ a.toList, K b 0 ≤ key y) (hl : ∀ y ∈ b.toList, key y ≤ K a (a.size - 1)) (h : ∀ r st', Sm st st' → Mgd a b r → Q r st') : wpS (model prog w) A E s (mHi a b) Q st := by
  refine wpS_bind (wpS_lift (wpAny_rule ⟨rfl, ?_⟩))
  obtain ⟨t0, q0, e0⟩ := keyAt ha (i := a.size - 1) (by omega)
  refine wpS_bind (wpS_elem e0 ?_)
  dsimp only
  have hi0 := Hi.start (b := b) sa (by omega : a.size = a.size - 1 + 1) e0 hl
  refine wpS_ite (fun c1 => ?_) (fun c1 => ?_)
  · exact wpS_pure (h _ _ ⟨rfl, rfl, rfl, rfl⟩ (hi0.doneA sb (beq_iff_eq.mp c1)))
  have m1 : ¬ a.size - 1 = 0 := fun z => c1 (beq_iff_eq.mpr z)
  refine wpS_ite (fun c2 => ?_) (fun c2 => ?_)
  · exact wpS_pure (h _ _ ⟨rfl, rfl, rfl, rfl⟩ (hi0.first sa nb hf (beq_iff_eq.mp c2)))
  have m2 : ¬ b.size = 1 := fun z => c2 (beq_iff_eq.mpr z)
  refine wpS_bind (wpS_get ?_)
  refine wpS_bind (wpS_mono (wpS_forRange (I := fun k c st' => Sm st st' ∧ ∃ out i j g, c = (none, i, j, out, g) ∧ Hi a b out i j ∧ (1 ≤ i ∧ i ≤ a.size) ∧ (2 ≤ j ∧ j ≤ b.size) ∧ i + j + k ≤ a.size + b.size)
    (Q := fun c st' => Sm st st' ∧ ∃ r out i j g, c = (some r, i, j, out, g) ∧ Mgd a b r) ?step ?fin ⟨⟨rfl, rfl, rfl, rfl⟩, _, _, _, _, rfl, hi0, by omega, by omega, by omega⟩) ?post)
  case post =>
    rintro c st' ⟨sm, r, out, i, j, g, rfl, mg⟩
    exact wpS_pure (h r st' sm mg)
  case fin =>
    rintro c st' ⟨sm, out, i, j, g, rfl, lo, hi, hj, hn⟩
    exfalso
    omega
  case step =>
    rintro k c st' _ hkn ⟨sm, out, i, j, g, rfl, hio, hi, hj, hn⟩
    dsimp only
    refine wpS_bind (wpS_mono (wpS_forRange (I := fun t c st'' => st'' = st' ∧ ∃ o i' j' u v, c = (none, i', j', o, u, v) ∧ Hi a b o i' j' ∧ (1 ≤ i' ∧ i' ≤ a.size) ∧ (2 ≤ j' ∧ j' ≤ b.size) ∧ i' + j' + t ≤ i + j)
      (Q := fun c st'' => st'' = st' ∧ ∃ r o i' j' u v, c = (r, i', j', o, u, v) ∧ ((∃ z, r = some z ∧ Mgd a b z) ∨ (r = none ∧ Hi a b o i' j' ∧ (1 ≤ i' ∧ i' ≤ a.size) ∧ (2 ≤ j' ∧ j' ≤ b.size) ∧ i' + j' < i + j))) ?step1 ?fin1 ⟨rfl, out, i, j, 0, 0, rfl, hio, hi, hj, Nat.le_refl _⟩) ?post1)
    case fin1 =>
      rintro c st'' ⟨rfl, o, i', j', u, v, rfl, hi', hi1, hj', hp'⟩
      exfalso
      omega
    case step1 =>
      rintro t c st'' _ _ ⟨rfl, o, i', j', u, v, rfl, hi', hi1, hj', hp'⟩
      dsimp only
      obtain ⟨tb, qb, eb⟩ := keyAt hb (i := j' - 1) (by omega)
      obtain ⟨ta, qa, ea⟩ := keyAt ha (i := i' - 1) (by omega)
      refine wpS_bind (wpS_elem eb ?_)
      refine wpS_bind (wpS_elem ea ?_)
      refine wpS_bind (wpS_lt (sm.1.trans hk) ?_)
      dsimp only
      refine wpS_ite (fun hw => ?_) (fun hw => ?_)
      · have hw := of_decide_eq_true hw
        refine wpS_bind (wpS_elem ea ?_)
        have hi2 := hi'.pa' sa (by omega) ea fun y hy => Int.le_trans (sb.upto (lst.trans eb) y (by rw [Nat.sub_add_cancel (by omega)]; exact hy)) (Int.le_of_lt hw)
        refine wpS_ite (fun e1 => ?_) (fun e1 => ?_)
        · exact wpS_pure ⟨rfl, _, _, _, _, _, _, rfl, .inl ⟨_, rfl, hi2.doneA sb (beq_iff_eq.mp e1)⟩⟩
        · have n1 : ¬ i' - 1 = 0 := fun z => e1 (beq_iff_eq.mpr z)
          refine wpS_ite (fun e2 => ?_) (fun e2 => ?_)
          · exact wpS_pure ⟨rfl, _, _, _, _, _, _, rfl, .inr ⟨rfl, hi2, by omega, by omega, by omega⟩⟩
          · exact wpS_pure ⟨rfl, _, _, _, _, _, rfl, hi2, by omega, by omega, by omega⟩
      · have hw : ¬ K b (j' - 1) < K a (i' - 1) := fun z => hw (decide_eq_true z)
        refine wpS_bind (wpS_elem eb ?_)
        have hi2 := hi'.pb' sb (by omega) eb fun y hy => Int.le_trans (sa.upto (lst.trans ea) y (by rw [Nat.sub_add_cancel (by omega)]; exact hy)) (Int.not_lt.mp hw)
        refine wpS_ite (fun e1 => ?_) (fun e1 => ?_)
        · exact wpS_pure ⟨rfl, _, _, _, _, _, _, rfl, .inl ⟨_, rfl, hi2.first sa nb hf (beq_iff_eq.mp e1)⟩⟩
        · have n1 : ¬ j' - 1 = 1 := fun z => e1 (beq_iff_eq.mpr z)
          refine wpS_ite (fun e2 => ?_) (fun e2 => ?_)
          · exact wpS_pure ⟨rfl, _, _, _, _, _, _, rfl, .inr ⟨rfl, hi2, by omega, by omega, by omega⟩⟩
          · exact wpS_pure ⟨rfl, _, _, _, _, _, rfl, hi2, by omega, by omega, by omega⟩
    case post1 =>
      rintro c st'' ⟨rfl, r, o, i', j', u, v, rfl, hz⟩
      rcases hz with ⟨z, rfl, mg⟩ | ⟨rfl, hi', hi1, hj', hp'⟩
      · exact wpS_pure ⟨sm, z, _, _, _, _, rfl, mg⟩
      · dsimp only
        refine wpS_bind (wpS_lift (wpAny_rule ⟨rfl, ?_⟩))
        refine wpS_bind (wpS_mono (wpS_forRange (I := fun t c s3 => Sm st s3 ∧ ∃ o i' j' m u v, c = (none, i', j', o, m, u, v) ∧ Hi a b o i' j' ∧ (1 ≤ i' ∧ i' ≤ a.size) ∧ (2 ≤ j' ∧ j' ≤ b.size) ∧ i' + j' + 1 + t ≤ i + j)
          (Q := fun c s3 => Sm st s3 ∧ ∃ r o i' j' m u v, c = (r, i', j', o, m, u, v) ∧ ((∃ z, r = some z ∧ Mgd a b z) ∨ (r = none ∧ Hi a b o i' j' ∧ (1 ≤ i' ∧ i' ≤ a.size) ∧ (2 ≤ j' ∧ j' ≤ b.size) ∧ i' + j' < i + j))) ?step2 ?fin2 ⟨sm, o, i', j', _, u, v, rfl, hi', hi1, hj', by omega⟩) ?post2)
        case fin2 =>
          rintro c s3 ⟨sm3, o, i', j', m, u, v, rfl, lo', hi', hj', hp'⟩
          exfalso
          omega
        case post2 =>
          rintro c s3 ⟨sm3, r, o, i', j', m, u, v, rfl, hz⟩
          rcases hz with ⟨z, rfl, mg⟩ | ⟨rfl, hi', hi1, hj', hp'⟩
          · exact wpS_pure ⟨sm3, z, _, _, _, _, rfl, mg⟩
          · dsimp only
            refine wpS_bind (wpS_modify ?_)
            exact wpS_pure ⟨sm3, _, _, _, _, rfl, hi', hi1, hj', by omega⟩
        case step2 =>
          clear hi' hi1 hj' hp'
          rintro t c s3 _ _ ⟨sm3, o, i', j', m, u, v, rfl, hi', hi1, hj', hp'⟩
          dsimp only
          obtain ⟨tb, qb, eb⟩ := keyAt hb (i := j' - 1) (by omega)
          refine wpS_ite (fun g1 => ?_) (fun g1 => ?_)
          · skip
            refine wpS_bind (wpS_modify ?_)
            refine wpS_bind (wpS_elem eb ?_)
            obtain ⟨p, hp, p1, p2⟩ := byd_cut false (K b (j' - 1)) sa (i := 0) (n := i') (by omega)
            refine wpS_bind (wpS_gal ha (sm3.1.trans hk) (by omega) (by omega) hp p1 p2 ?_)
            dsimp only
            refine wpS_ite (fun k0 => ?_) (fun k0 => ?_)
            · have hi2 := hi'.ba' sa hp (by omega) fun t t1 t2 y hy => by
                have z := byd_R.2 (p2 t t1 t2)
                have z2 := sb.upto (lst.trans eb) y (by rw [Nat.sub_add_cancel (by omega)]; exact hy)
                rw [Nat.zero_add] at z
                exact Int.le_trans z2 (Int.le_of_lt z)
              refine wpS_ite (fun e1 => ?_) (fun e1 => ?_)
              · exact wpS_pure ⟨sm3, _, _, _, _, _, _, _, rfl, .inl ⟨_, rfl, hi2.doneA sb (beq_iff_eq.mp e1)⟩⟩
              · have n1 : ¬ p = 0 := fun z => e1 (beq_iff_eq.mpr z)
                refine wpS_bind (wpS_elem eb ?_)
                obtain ⟨ta, qa, ea⟩ := keyAt ha (i := p - 1) (by omega)
                have hi3 := hi2.pb' sb (by omega) eb fun y hy => by
                  have z := byd_R.1 (p1 (p - 1) (by omega))
                  have z2 := sa.upto (lst.trans ea) y (by rw [Nat.sub_add_cancel (by omega)]; exact hy)
                  rw [Nat.zero_add] at z
                  exact Int.le_trans z2 z
                refine wpS_ite (fun e3 => ?_) (fun e3 => ?_)
                · exact wpS_pure ⟨sm3, _, _, _, _, _, _, _, rfl, .inl ⟨_, rfl, hi3.first sa nb hf (beq_iff_eq.mp e3)⟩⟩
                · have n3 : ¬ j' - 1 = 1 := fun z => e3 (beq_iff_eq.mpr z)
                  refine wpS_bind (wpS_elem ea ?_)
                  obtain ⟨r, hr, r1, r2⟩ := byd_cut true (K a (p - 1)) sb (i := 0) (n := j' - 1) (by omega)
                  refine wpS_bind (wpS_gal hb (sm3.1.trans hk) (by omega) (by omega) hr r1 r2 ?_)
                  dsimp only
                  refine wpS_ite (fun k1 => ?_) (fun k1 => ?_)
                  · have hi4 := hi3.bb' sb hr (by omega) fun t t1 t2 y hy => by
                      have z := byd_L.2 (r2 t t1 t2)
                      have z2 := sa.upto (lst.trans ea) y (by rw [Nat.sub_add_cancel (by omega)]; exact hy)
                      rw [Nat.zero_add] at z
                      exact Int.le_trans z2 z
                    refine wpS_ite (fun e4 => ?_) (fun e4 => ?_)
                    · exact wpS_pure ⟨sm3, _, _, _, _, _, _, _, rfl, .inl ⟨_, rfl, hi4.first sa nb hf (beq_iff_eq.mp e4)⟩⟩
                    · have n4 : ¬ r = 1 := fun z => e4 (beq_iff_eq.mpr z)
                      refine wpS_ite (fun e5 => ?_) (fun e5 => ?_)
                      · exact wpS_pure ⟨sm3, _, _, _, _, _, _, _, rfl, .inl ⟨_, rfl, hi4.doneB sa (beq_iff_eq.mp e5)⟩⟩
                      · have n5 : ¬ r = 0 := fun z => e5 (beq_iff_eq.mpr z)
                        refine wpS_bind (wpS_elem ea ?_)
                        have ej : b[r - 1]? = some b[r - 1] := getElem?_pos _ _ (by omega)
                        have hi5 := hi4.pa' sa (by omega) ea fun y hy => by
                          have z := byd_L.1 (r1 (r - 1) (by omega))
                          have z2 := sb.upto (lst.trans ej) y (by rw [Nat.sub_add_cancel (by omega)]; exact hy)
                          rw [← K_key ej] at z2
                          rw [Nat.zero_add] at z
                          exact Int.le_trans z2 (Int.le_of_lt z)
                        refine wpS_ite (fun e6 => ?_) (fun e6 => ?_)
                        · exact wpS_pure ⟨sm3, _, _, _, _, _, _, _, rfl, .inl ⟨_, rfl, hi5.doneA sb (beq_iff_eq.mp e6)⟩⟩
                        · have n6 : ¬ p - 1 = 0 := fun z => e6 (beq_iff_eq.mpr z)
                          refine wpS_ite (fun e7 => ?_) (fun e7 => ?_)
                          · exact wpS_pure ⟨sm3, _, _, _, _, _, _, _, rfl, .inr ⟨rfl, hi5, by omega, by omega, by omega⟩⟩
                          · exact wpS_pure ⟨sm3, _, _, _, _, _, _, rfl, hi5, by omega, by omega, by omega⟩
                  · obtain rfl : r = j' - 1 := by omega
                    refine wpS_bind (wpS_elem ea ?_)
                    have ej : b[(j' - 1) - 1]? = some b[(j' - 1) - 1] := getElem?_pos _ _ (by omega)
                    have hi5 := hi3.pa' sa (by omega) ea fun y hy => by
                      have z := byd_L.1 (r1 ((j' - 1) - 1) (by omega))
                      have z2 := sb.upto (lst.trans ej) y (by rw [Nat.sub_add_cancel (by omega)]; exact hy)
                      rw [← K_key ej] at z2
                      rw [Nat.zero_add] at z
                      exact Int.le_trans z2 (Int.le_of_lt z)
                    refine wpS_ite (fun e6 => ?_) (fun e6 => ?_)
                    · exact wpS_pure ⟨sm3, _, _, _, _, _, _, _, rfl, .inl ⟨_, rfl, hi5.doneA sb (beq_iff_eq.mp e6)⟩⟩
                    · have n6 : ¬ p - 1 = 0 := fun z => e6 (beq_iff_eq.mpr z)
                      refine wpS_ite (fun e7 => ?_) (fun e7 => ?_)
                      · exact wpS_pure ⟨sm3, _, _, _, _, _, _, _, rfl, .inr ⟨rfl, hi5, by omega, by omega, by omega⟩⟩
                      · exact wpS_pure ⟨sm3, _, _, _, _, _, _, rfl, hi5, by omega, by omega, by omega⟩
            · obtain rfl : i' = p := by omega
              refine wpS_bind (wpS_elem eb ?_)
              obtain ⟨ta, qa, ea⟩ := keyAt ha (i := i' - 1) (by omega)
              have hi3 := hi'.pb' sb (by omega) eb fun y hy => by
                have z := byd_R.1 (p1 (i' - 1) (by omega))
                have z2 := sa.upto (lst.trans ea) y (by rw [Nat.sub_add_cancel (by omega)]; exact hy)
                rw [Nat.zero_add] at z
                exact Int.le_trans z2 z
              refine wpS_ite (fun e3 => ?_) (fun e3 => ?_)
              · exact wpS_pure ⟨sm3, _, _, _, _, _, _, _, rfl, .inl ⟨_, rfl, hi3.first sa nb hf (beq_iff_eq.mp e3)⟩⟩
              · have n3 : ¬ j' - 1 = 1 := fun z => e3 (beq_iff_eq.mpr z)
                refine wpS_bind (wpS_elem ea ?_)
                obtain ⟨r, hr, r1, r2⟩ := byd_cut true (K a (i' - 1)) sb (i := 0) (n := j' - 1) (by omega)
                refine wpS_bind (wpS_gal hb (sm3.1.trans hk) (by omega) (by omega) hr r1 r2 ?_)
                dsimp only
                refine wpS_ite (fun k1 => ?_) (fun k1 => ?_)
                · have hi4 := hi3.bb' sb hr (by omega) fun t t1 t2 y hy => by
                    have z := byd_L.2 (r2 t t1 t2)
                    have z2 := sa.upto (lst.trans ea) y (by rw [Nat.sub_add_cancel (by omega)]; exact hy)
                    rw [Nat.zero_add] at z
                    exact Int.le_trans z2 z
                  refine wpS_ite (fun e4 => ?_) (fun e4 => ?_)
                  · exact wpS_pure ⟨sm3, _, _, _, _, _, _, _, rfl, .inl ⟨_, rfl, hi4.first sa nb hf (beq_iff_eq.mp e4)⟩⟩
                  · have n4 : ¬ r = 1 := fun z => e4 (beq_iff_eq.mpr z)
                    refine wpS_ite (fun e5 => ?_) (fun e5 => ?_)
                    · exact wpS_pure ⟨sm3, _, _, _, _, _, _, _, rfl, .inl ⟨_, rfl, hi4.doneB sa (beq_iff_eq.mp e5)⟩⟩
                    · have n5 : ¬ r = 0 := fun z => e5 (beq_iff_eq.mpr z)
                      refine wpS_bind (wpS_elem ea ?_)
                      have ej : b[r - 1]? = some b[r - 1] := getElem?_pos _ _ (by omega)
                      have hi5 := hi4.pa' sa (by omega) ea fun y hy => by
                        have z := byd_L.1 (r1 (r - 1) (by omega))
                        have z2 := sb.upto (lst.trans ej) y (by rw [Nat.sub_add_cancel (by omega)]; exact hy)
                        rw [← K_key ej] at z2
                        rw [Nat.zero_add] at z
                        exact Int.le_trans z2 (Int.le_of_lt z)
                      refine wpS_ite (fun e6 => ?_) (fun e6 => ?_)
                      · exact wpS_pure ⟨sm3, _, _, _, _, _, _, _, rfl, .inl ⟨_, rfl, hi5.doneA sb (beq_iff_eq.mp e6)⟩⟩
                      · have n6 : ¬ i' - 1 = 0 := fun z => e6 (beq_iff_eq.mpr z)
                        refine wpS_ite (fun e7 => ?_) (fun e7 => ?_)
                        · exact wpS_pure ⟨sm3, _, _, _, _, _, _, _, rfl, .inr ⟨rfl, hi5, by omega, by omega, by omega⟩⟩
                        · exact wpS_pure ⟨sm3, _, _, _, _, _, _, rfl, hi5, by omega, by omega, by omega⟩
                · obtain rfl : r = j' - 1 := by omega
                  refine wpS_bind (wpS_elem ea ?_)
                  have ej : b[(j' - 1) - 1]? = some b[(j' - 1) - 1] := getElem?_pos _ _ (by omega)
                  have hi5 := hi3.pa' sa (by omega) ea fun y hy => by
                    have z := byd_L.1 (r1 ((j' - 1) - 1) (by omega))
                    have z2 := sb.upto (lst.trans ej) y (by rw [Nat.sub_add_cancel (by omega)]; exact hy)
                    rw [← K_key ej] at z2
                    rw [Nat.zero_add] at z
                    exact Int.le_trans z2 (Int.le_of_lt z)
                  refine wpS_ite (fun e6 => ?_) (fun e6 => ?_)
                  · exact wpS_pure ⟨sm3, _, _, _, _, _, _, _, rfl, .inl ⟨_, rfl, hi5.doneA sb (beq_iff_eq.mp e6)⟩⟩
                  · have n6 : ¬ i' - 1 = 0 := fun z => e6 (beq_iff_eq.mpr z)
                    refine wpS_ite (fun e7 => ?_) (fun e7 => ?_)
                    · exact wpS_pure ⟨sm3, _, _, _, _, _, _, _, rfl, .inr ⟨rfl, hi5, by omega, by omega, by omega⟩⟩
                    · exact wpS_pure ⟨sm3, _, _, _, _, _, _, rfl, hi5, by omega, by omega, by omega⟩
          · skip
            refine wpS_bind (wpS_modify ?_)
            refine wpS_bind (wpS_elem eb ?_)
            obtain ⟨p, hp, p1, p2⟩ := byd_cut false (K b (j' - 1)) sa (i := 0) (n := i') (by omega)
            refine wpS_bind (wpS_gal ha (sm3.1.trans hk) (by omega) (by omega) hp p1 p2 ?_)
            dsimp only
            refine wpS_ite (fun k0 => ?_) (fun k0 => ?_)
            · have hi2 := hi'.ba' sa hp (by omega) fun t t1 t2 y hy => by
                have z := byd_R.2 (p2 t t1 t2)
                have z2 := sb.upto (lst.trans eb) y (by rw [Nat.sub_add_cancel (by omega)]; exact hy)
                rw [Nat.zero_add] at z
                exact Int.le_trans z2 (Int.le_of_lt z)
              refine wpS_ite (fun e1 => ?_) (fun e1 => ?_)
              · exact wpS_pure ⟨sm3, _, _, _, _, _, _, _, rfl, .inl ⟨_, rfl, hi2.doneA sb (beq_iff_eq.mp e1)⟩⟩
              · have n1 : ¬ p = 0 := fun z => e1 (beq_iff_eq.mpr z)
                refine wpS_bind (wpS_elem eb ?_)
                obtain ⟨ta, qa, ea⟩ := keyAt ha (i := p - 1) (by omega)
                have hi3 := hi2.pb' sb (by omega) eb fun y hy => by
                  have z := byd_R.1 (p1 (p - 1) (by omega))
                  have z2 := sa.upto (lst.trans ea) y (by rw [Nat.sub_add_cancel (by omega)]; exact hy)
                  rw [Nat.zero_add] at z
                  exact Int.le_trans z2 z
                refine wpS_ite (fun e3 => ?_) (fun e3 => ?_)
                · exact wpS_pure ⟨sm3, _, _, _, _, _, _, _, rfl, .inl ⟨_, rfl, hi3.first sa nb hf (beq_iff_eq.mp e3)⟩⟩
                · have n3 : ¬ j' - 1 = 1 := fun z => e3 (beq_iff_eq.mpr z)
                  refine wpS_bind (wpS_elem ea ?_)
                  obtain ⟨r, hr, r1, r2⟩ := byd_cut true (K a (p - 1)) sb (i := 0) (n := j' - 1) (by omega)
                  refine wpS_bind (wpS_gal hb (sm3.1.trans hk) (by omega) (by omega) hr r1 r2 ?_)
                  dsimp only
                  refine wpS_ite (fun k1 => ?_) (fun k1 => ?_)
                  · have hi4 := hi3.bb' sb hr (by omega) fun t t1 t2 y hy => by
                      have z := byd_L.2 (r2 t t1 t2)
                      have z2 := sa.upto (lst.trans ea) y (by rw [Nat.sub_add_cancel (by omega)]; exact hy)
                      rw [Nat.zero_add] at z
                      exact Int.le_trans z2 z
                    refine wpS_ite (fun e4 => ?_) (fun e4 => ?_)
                    · exact wpS_pure ⟨sm3, _, _, _, _, _, _, _, rfl, .inl ⟨_, rfl, hi4.first sa nb hf (beq_iff_eq.mp e4)⟩⟩
                    · have n4 : ¬ r = 1 := fun z => e4 (beq_iff_eq.mpr z)
                      refine wpS_ite (fun e5 => ?_) (fun e5 => ?_)
                      · exact wpS_pure ⟨sm3, _, _, _, _, _, _, _, rfl, .inl ⟨_, rfl, hi4.doneB sa (beq_iff_eq.mp e5)⟩⟩
                      · have n5 : ¬ r = 0 := fun z => e5 (beq_iff_eq.mpr z)
                        refine wpS_bind (wpS_elem ea ?_)
                        have ej : b[r - 1]? = some b[r - 1] := getElem?_pos _ _ (by omega)
                        have hi5 := hi4.pa' sa (by omega) ea fun y hy => by
                          have z := byd_L.1 (r1 (r - 1) (by omega))
                          have z2 := sb.upto (lst.trans ej) y (by rw [Nat.sub_add_cancel (by omega)]; exact hy)
                          rw [← K_key ej] at z2
                          rw [Nat.zero_add] at z
                          exact Int.le_trans z2 (Int.le_of_lt z)
                        refine wpS_ite (fun e6 => ?_) (fun e6 => ?_)
                        · exact wpS_pure ⟨sm3, _, _, _, _, _, _, _, rfl, .inl ⟨_, rfl, hi5.doneA sb (beq_iff_eq.mp e6)⟩⟩
                        · have n6 : ¬ p - 1 = 0 := fun z => e6 (beq_iff_eq.mpr z)
                          refine wpS_ite (fun e7 => ?_) (fun e7 => ?_)
                          · exact wpS_pure ⟨sm3, _, _, _, _, _, _, _, rfl, .inr ⟨rfl, hi5, by omega, by omega, by omega⟩⟩
                          · exact wpS_pure ⟨sm3, _, _, _, _, _, _, rfl, hi5, by omega, by omega, by omega⟩
                  · obtain rfl : r = j' - 1 := by omega
                    refine wpS_bind (wpS_elem ea ?_)
                    have ej : b[(j' - 1) - 1]? = some b[(j' - 1) - 1] := getElem?_pos _ _ (by omega)
                    have hi5 := hi3.pa' sa (by omega) ea fun y hy => by
                      have z := byd_L.1 (r1 ((j' - 1) - 1) (by omega))
                      have z2 := sb.upto (lst.trans ej) y (by rw [Nat.sub_add_cancel (by omega)]; exact hy)
                      rw [← K_key ej] at z2
                      rw [Nat.zero_add] at z
                      exact Int.le_trans z2 (Int.le_of_lt z)
                    refine wpS_ite (fun e6 => ?_) (fun e6 => ?_)
                    · exact wpS_pure ⟨sm3, _, _, _, _, _, _, _, rfl, .inl ⟨_, rfl, hi5.doneA sb (beq_iff_eq.mp e6)⟩⟩
                    · have n6 : ¬ p - 1 = 0 := fun z => e6 (beq_iff_eq.mpr z)
                      refine wpS_ite (fun e7 => ?_) (fun e7 => ?_)
                      · exact wpS_pure ⟨sm3, _, _, _, _, _, _, _, rfl, .inr ⟨rfl, hi5, by omega, by omega, by omega⟩⟩
                      · exact wpS_pure ⟨sm3, _, _, _, _, _, _, rfl, hi5, by omega, by omega, by omega⟩
            · obtain rfl : i' = p := by omega
              refine wpS_bind (wpS_elem eb ?_)
              obtain ⟨ta, qa, ea⟩ := keyAt ha (i := i' - 1) (by omega)
              have hi3 := hi'.pb' sb (by omega) eb fun y hy => by
                have z := byd_R.1 (p1 (i' - 1) (by omega))
                have z2 := sa.upto (lst.trans ea) y (by rw [Nat.sub_add_cancel (by omega)]; exact hy)
                rw [Nat.zero_add] at z
                exact Int.le_trans z2 z
              refine wpS_ite (fun e3 => ?_) (fun e3 => ?_)
              · exact wpS_pure ⟨sm3, _, _, _, _, _, _, _, rfl, .inl ⟨_, rfl, hi3.first sa nb hf (beq_iff_eq.mp e3)⟩⟩
              · have n3 : ¬ j' - 1 = 1 := fun z => e3 (beq_iff_eq.mpr z)
                refine wpS_bind (wpS_elem ea ?_)
                obtain ⟨r, hr, r1, r2⟩ := byd_cut true (K a (i' - 1)) sb (i := 0) (n := j' - 1) (by omega)
                refine wpS_bind (wpS_gal hb (sm3.1.trans hk) (by omega) (by omega) hr r1 r2 ?_)
                dsimp only
                refine wpS_ite (fun k1 => ?_) (fun k1 => ?_)
                · have hi4 := hi3.bb' sb hr (by omega) fun t t1 t2 y hy => by
                    have z := byd_L.2 (r2 t t1 t2)
                    have z2 := sa.upto (lst.trans ea) y (by rw [Nat.sub_add_cancel (by omega)]; exact hy)
                    rw [Nat.zero_add] at z
                    exact Int.le_trans z2 z
                  refine wpS_ite (fun e4 => ?_) (fun e4 => ?_)
                  · exact wpS_pure ⟨sm3, _, _, _, _, _, _, _, rfl, .inl ⟨_, rfl, hi4.first sa nb hf (beq_iff_eq.mp e4)⟩⟩
                  · have n4 : ¬ r = 1 := fun z => e4 (beq_iff_eq.mpr z)
                    refine wpS_ite (fun e5 => ?_) (fun e5 => ?_)
                    · exact wpS_pure ⟨sm3, _, _, _, _, _, _, _, rfl, .inl ⟨_, rfl, hi4.doneB sa (beq_iff_eq.mp e5)⟩⟩
                    · have n5 : ¬ r = 0 := fun z => e5 (beq_iff_eq.mpr z)
                      refine wpS_bind (wpS_elem ea ?_)
                      have ej : b[r - 1]? = some b[r - 1] := getElem?_pos _ _ (by omega)
                      have hi5 := hi4.pa' sa (by omega) ea fun y hy => by
                        have z := byd_L.1 (r1 (r - 1) (by omega))
                        have z2 := sb.upto (lst.trans ej) y (by rw [Nat.sub_add_cancel (by omega)]; exact hy)
                        rw [← K_key ej] at z2
                        rw [Nat.zero_add] at z
                        exact Int.le_trans z2 (Int.le_of_lt z)
                      refine wpS_ite (fun e6 => ?_) (fun e6 => ?_)
                      · exact wpS_pure ⟨sm3, _, _, _, _, _, _, _, rfl, .inl ⟨_, rfl, hi5.doneA sb (beq_iff_eq.mp e6)⟩⟩
                      · have n6 : ¬ i' - 1 = 0 := fun z => e6 (beq_iff_eq.mpr z)
                        refine wpS_ite (fun e7 => ?_) (fun e7 => ?_)
                        · exact wpS_pure ⟨sm3, _, _, _, _, _, _, _, rfl, .inr ⟨rfl, hi5, by omega, by omega, by omega⟩⟩
                        · exact wpS_pure ⟨sm3, _, _, _, _, _, _, rfl, hi5, by omega, by omega, by omega⟩
                · obtain rfl : r = j' - 1 := by omega
                  refine wpS_bind (wpS_elem ea ?_)
                  have ej : b[(j' - 1) - 1]? = some b[(j' - 1) - 1] := getElem?_pos _ _ (by omega)
                  have hi5 := hi3.pa' sa (by omega) ea fun y hy => by
                    have z := byd_L.1 (r1 ((j' - 1) - 1) (by omega))
                    have z2 := sb.upto (lst.trans ej) y (by rw [Nat.sub_add_cancel (by omega)]; exact hy)
                    rw [← K_key ej] at z2
                    rw [Nat.zero_add] at z
                    exact Int.le_trans z2 (Int.le_of_lt z)
                  refine wpS_ite (fun e6 => ?_) (fun e6 => ?_)
                  · exact wpS_pure ⟨sm3, _, _, _, _, _, _, _, rfl, .inl ⟨_, rfl, hi5.doneA sb (beq_iff_eq.mp e6)⟩⟩
                  · have n6 : ¬ i' - 1 = 0 := fun z => e6 (beq_iff_eq.mpr z)
                    refine wpS_ite (fun e7 => ?_) (fun e7 => ?_)
                    · exact wpS_pure ⟨sm3, _, _, _, _, _, _, _, rfl, .inr ⟨rfl, hi5, by omega, by omega, by omega⟩⟩
                    · exact wpS_pure ⟨sm3, _, _, _, _, _, _, rfl, hi5, by omega, by omega, by omega⟩
end
end Srt

set_option Elab.async false
set_option linter.all false
set_option maxRecDepth 100000
set_option maxHeartbeats 1000000
namespace Srt
open PySem PyProof.Rows
structure Bs (a₀ : Array Keyed) (P : Array (Nat × Nat × Nat)) (st : SortSt) : Prop where
  perm : (arrOf st).Perm a₀
  kind : kindOf st = oneType'
  failed : failedOf st = none
  pend : pendingOf st = P
def Ds (a₀ : Array Keyed) : Prop := (a₀.toList.map key).Nodup
def SIn (xs : Array Keyed) (lo hi : Nat) : Prop := ∀ i j, lo ≤ i → i ≤ j → j < hi → K xs i ≤ K xs j
def Pre (lo : Nat) (xs ys : Array Keyed) : Prop := ∀ i : Nat, i < lo → ys[i]? = xs[i]?
theorem Bs.size {a₀ : Array Keyed} {P : Array (Nat × Nat × Nat)} {st : SortSt} (h : Bs a₀ P st) : (arrOf st).size = a₀.size := h.perm.size_eq
theorem Bs.keys {a₀ : Array Keyed} {P : Array (Nat × Nat × Nat)} {st : SortSt} (h : Bs a₀ P st) (h0 : IntKeys a₀) : IntKeys (arrOf st) := fun p hp => h0 p ((Array.perm_iff_toList_perm.mp h.perm).mem_iff.mp hp)
theorem Bs.arr {a₀ : Array Keyed} {P : Array (Nat × Nat × Nat)} {st : SortSt} (h : Bs a₀ P st) {xs : Array Keyed} (hp : xs.Perm (arrOf st)) : Bs a₀ P (setArr st xs) := ⟨hp.trans h.perm, h.kind, h.failed, h.pend⟩
theorem Bs.ne {a₀ : Array Keyed} {P : Array (Nat × Nat × Nat)} {st : SortSt} (h : Bs a₀ P st) (hd : Ds a₀) {i j : Nat} (hi : i < a₀.size) (hj : j < a₀.size) (hij : i ≠ j) : K (arrOf st) i ≠ K (arrOf st) j := by
  have hi' : i < (arrOf st).size := by rw [h.size]; exact hi
  have hj' : j < (arrOf st).size := by rw [h.size]; exact hj
  have nd : ((arrOf st).toList.map key).Nodup := ((Array.perm_iff_toList_perm.mp h.perm).map key).nodup_iff.mpr hd
  intro e
  rw [K_key (getElem?_pos _ i hi'), K_key (getElem?_pos _ j hj')] at e
  have l : ((arrOf st).toList.map key).length = (arrOf st).size := by simp
  have pw := List.pairwise_iff_getElem.mp nd
  rcases Nat.lt_or_gt_of_ne hij with z | z
  · exact pw i j (by rw [l]; exact hi') (by rw [l]; exact hj') z (by simpa using e)
  · exact pw j i (by rw [l]; exact hj') (by rw [l]; exact hi') z (by simpa using e.symm)
theorem SIn.more {xs : Array Keyed} {lo x : Nat} (h : SIn xs lo (lo + x)) (hx : 1 ≤ x) (e : ¬ K xs (lo + x) < K xs (lo + x - 1)) : SIn xs lo (lo + (x + 1)) := by
  intro i j a b c
  by_cases hj : j < lo + x
  · exact h i j a b hj
  · obtain rfl : j = lo + x := by omega
    by_cases hi : i = lo + x
    · subst hi
      exact Int.le_refl _
    · have z := h i (lo + x - 1) a (by omega) (by omega)
      omega
section
variable {prog : Program} {w : World} {A : Around} {E : Value → Shared → Prop} {s : Shared} {a₀ : Array Keyed} {P : Array (Nat × Nat × Nat)}
theorem wpS_ltB {st : SortSt} {i j : Nat} {Q : Option Bool → SortSt → Prop} (hB : Bs a₀ P st) (h0 : IntKeys a₀) (hi : i < a₀.size) (hj : j < a₀.size)
    (h : Q (some (decide (K (arrOf st) i < K (arrOf st) j))) st) : wpS (model prog w) A E s (ltAt' i j) Q st := by
  obtain ⟨t, p, e1⟩ := keyAt (hB.keys h0) (i := i) (by rw [hB.size]; exact hi)
  obtain ⟨u, q, e2⟩ := keyAt (hB.keys h0) (i := j) (by rw [hB.size]; exact hj)
  exact wpS_ltAt hB.kind e1 e2 h
theorem wpS_run {st : SortSt} {lo nrem : Nat} {Q : Option Nat → SortSt → Prop} (h0 : IntKeys a₀) (hd : Ds a₀) (hn : lo + nrem ≤ a₀.size) (h1 : 1 ≤ nrem) (hB : Bs a₀ P st)
    (h : ∀ m st', Bs a₀ P st' → Pre lo (arrOf st) (arrOf st') → 1 ≤ m → m ≤ nrem → SIn (arrOf st') lo (lo + m) → Q (some m) st') : wpS (model prog w) A E s (countRun' lo nrem) Q st := by
  refine wpS_bind (wpS_mono (wpS_forRange (I := fun x c st' => st' = st ∧ c = (none, x) ∧ SIn (arrOf st) lo (lo + x))
    (Q := fun c st' => st' = st ∧ ∃ n, c = (none, n) ∧ 1 ≤ n ∧ n ≤ nrem ∧ SIn (arrOf st) lo (lo + n) ∧ (n = nrem ∨ K (arrOf st) (lo + n) < K (arrOf st) (lo + n - 1))) ?step ?fin ⟨rfl, rfl, ?init⟩) ?post)
  case init =>
    intro i j a b c
    obtain rfl : i = j := by omega
    exact Int.le_refl _
  case fin =>
    rintro c st' ⟨rfl, rfl, q⟩
    rw [(by omega : max 1 nrem = nrem)] at q ⊢
    exact ⟨rfl, nrem, rfl, h1, Nat.le_refl _, q, .inl rfl⟩
  case step =>
    rintro x c st' hx hxn ⟨rfl, rfl, q⟩
    dsimp only
    refine wpS_bind (wpS_ltB hB h0 (by omega) (by omega) ?_)
    dsimp only
    refine wpS_ite (fun e => ?_) (fun e => ?_)
    · exact wpS_pure ⟨rfl, x, rfl, hx, by omega, q, .inr (of_decide_eq_true e)⟩
    · exact wpS_pure ⟨rfl, rfl, q.more (by omega) (fun z => e (decide_eq_true z))⟩
  case post =>
    rintro c st' ⟨rfl, n, rfl, n1, n2, n3, n4⟩
    dsimp only
    refine wpS_ite (fun e1 => ?_) (fun e1 => ?_)
    · exact wpS_pure (h n _ hB (fun _ _ => rfl) n1 n2 n3)
    have m1 : ¬ n = nrem := fun z => e1 (beq_iff_eq.mpr z)
    refine wpS_ite (fun e2 => ?_) (fun e2 => ?_)
    · refine wpS_bind (wpS_ltB hB h0 (by omega) (by omega) ?_)
      dsimp only
      have lt : K (arrOf st') lo < K (arrOf st') (lo + n - 1) := by
        have z1 := n3 lo (lo + n - 1) (by omega) (by omega) (by omega)
        have z2 := hB.ne hd (i := lo) (j := lo + n - 1) (by omega) (by omega) (by omega)
        omega
      rw [if_pos (decide_eq_true lt)]
      exact wpS_pure (h n _ hB (fun _ _ => rfl) n1 n2 n3)
    obtain rfl : n = 1 := by omega
    have dn : K (arrOf st') (lo + 1) < K (arrOf st') lo := n4.resolve_left m1
    refine wpS_bind (wpS_lift (wpAny_rule ⟨rfl, ?_⟩))
    refine wpS_bind (wpS_mono (wpS_forRange (I := fun x c st'' => st'' = st' ∧ c = (none, x, 0) ∧ x ≤ nrem ∧ ∀ i j, lo ≤ i → i ≤ j → j < lo + x → K (arrOf st') j ≤ K (arrOf st') i)
      (Q := fun c st'' => st'' = st' ∧ ∃ n, c = (none, n, 0) ∧ 2 ≤ n ∧ n ≤ nrem ∧ ∀ i j, lo ≤ i → i ≤ j → j < lo + n → K (arrOf st') j ≤ K (arrOf st') i) ?s2 ?f2 ⟨rfl, rfl, by omega, ?i2⟩) ?p2)
    case i2 =>
      intro i j a b c
      by_cases hij : i = j
      · subst hij
        exact Int.le_refl _
      · obtain rfl : i = lo := by omega
        obtain rfl : j = i + 1 := by omega
        exact Int.le_of_lt dn
    case f2 =>
      rintro c st'' ⟨rfl, rfl, q1, q2⟩
      have e : max (1 + 1) nrem = nrem := by omega
      rw [e] at q2 ⊢
      exact ⟨rfl, nrem, rfl, by omega, Nat.le_refl _, q2⟩
    case s2 =>
      rintro x c st'' hx hxn ⟨rfl, rfl, q1, q2⟩
      dsimp only
      refine wpS_bind (wpS_ltB hB h0 (by omega) (by omega) ?_)
      dsimp only
      refine wpS_ite (fun e => ?_) (fun e => ?_)
      · rw [if_neg (by omega)]
        refine wpS_pure ⟨rfl, rfl, by omega, fun i j a b c => ?_⟩
        have e := of_decide_eq_true e
        by_cases hj : j < lo + x
        · exact q2 i j a b hj
        · obtain rfl : j = lo + x := by omega
          by_cases hi : i = lo + x
          · subst hi
            exact Int.le_refl _
          · have z := q2 i (lo + x - 1) a (by omega) (by omega)
            omega
      · refine wpS_bind (wpS_ltB hB h0 (by omega) (by omega) ?_)
        dsimp only
        have lt : K (arrOf st'') (lo + x - 1) < K (arrOf st'') (lo + x) := by
          have z2 := hB.ne hd (i := lo + x) (j := lo + x - 1) (by omega) (by omega) (by omega)
          have z1 : ¬ K (arrOf st'') (lo + x) < K (arrOf st'') (lo + x - 1) := fun z => e (decide_eq_true z)
          omega
        rw [if_pos (decide_eq_true lt)]
        exact wpS_pure ⟨rfl, x, rfl, by omega, by omega, q2⟩
    case p2 =>
      rintro c st'' ⟨rfl, n, rfl, k1, k2, k3⟩
      dsimp only
      rw [if_neg (by omega)]
      refine wpS_bind (wpS_reverse ?_)
      have hB2 := hB.arr (mirror_perm (arrOf st'') lo (lo + n) ((lo + n - lo) / 2))
      have hz : lo + n ≤ (arrOf st'').size := by rw [hB.size]; omega
      have pr : Pre lo (arrOf st'') (mirror (arrOf st'') lo (lo + n) ((lo + n - lo) / 2)) := fun i hi => by
        rw [getElem?_mirror_all hz, if_neg (by omega)]
      have sn : SIn (mirror (arrOf st'') lo (lo + n) ((lo + n - lo) / 2)) lo (lo + n) := fun i j a b c => by
        rw [K_mirror hz, K_mirror hz, if_pos (by omega), if_pos (by omega)]
        exact k3 _ _ (by omega) (by omega) (by omega)
      refine wpS_bind (wpS_mono (wpS_forRange (I := fun x c st' => st' = setArr st'' (mirror (arrOf st'') lo (lo + n) ((lo + n - lo) / 2)) ∧ c = (none, x) ∧ SIn (arrOf st') lo (lo + x))
        (Q := fun c st' => st' = setArr st'' (mirror (arrOf st'') lo (lo + n) ((lo + n - lo) / 2)) ∧ ∃ m, c = (none, m) ∧ 1 ≤ m ∧ m ≤ nrem ∧ SIn (arrOf st') lo (lo + m)) ?s3 ?f3 ⟨rfl, rfl, sn⟩) ?p3)
      case f3 =>
        rintro c st' ⟨rfl, rfl, q⟩
        rw [(by omega : max n nrem = nrem)] at q ⊢
        exact ⟨rfl, nrem, rfl, h1, Nat.le_refl _, q⟩
      case s3 =>
        rintro x c st' hx hxn ⟨rfl, rfl, q⟩
        dsimp only
        refine wpS_bind (wpS_ltB hB2 h0 (by omega) (by omega) ?_)
        dsimp only
        refine wpS_ite (fun e => ?_) (fun e => ?_)
        · exact wpS_pure ⟨rfl, x, rfl, by omega, by omega, q⟩
        · exact wpS_pure ⟨rfl, rfl, q.more (by omega) (fun z => e (decide_eq_true z))⟩
      case p3 =>
        rintro c st' ⟨rfl, m, rfl, m2, m3, m4⟩
        exact wpS_pure (h m _ hB2 pr m2 m3 m4)
theorem wpS_ins {st : SortSt} {lo n ok : Nat} {Q : Bool → SortSt → Prop} (h0 : IntKeys a₀) (hn : lo + n ≤ a₀.size) (hok : ok ≤ n) (hB : Bs a₀ P st) (hs : SIn (arrOf st) lo (lo + ok))
    (h : ∀ st', Bs a₀ P st' → Pre lo (arrOf st) (arrOf st') → SIn (arrOf st') lo (lo + n) → Q true st') : wpS (model prog w) A E s (binarySort' lo n ok) Q st := by
  refine wpS_bind (wpS_mono (wpS_forRange (I := fun k c st' => c = (none, ()) ∧ Bs a₀ P st' ∧ Pre lo (arrOf st) (arrOf st') ∧ SIn (arrOf st') lo (lo + min k n))
    (Q := fun c st' => c = (none, ()) ∧ Bs a₀ P st' ∧ Pre lo (arrOf st) (arrOf st') ∧ SIn (arrOf st') lo (lo + n)) ?step ?fin ⟨rfl, hB, fun _ _ => rfl, ?init⟩) ?post)
  case post =>
    rintro c st' ⟨rfl, b1, b2, b3⟩
    exact wpS_pure (h st' b1 b2 b3)
  case init =>
    intro i j a b c
    by_cases z : ok = 0
    · obtain rfl : i = j := by omega
      exact Int.le_refl _
    · exact hs i j a b (by omega)
  case fin =>
    rintro c st' ⟨rfl, b1, b2, b3⟩
    rw [(by omega : min (max (max ok 1) n) n = n)] at b3
    exact ⟨rfl, b1, b2, b3⟩
  case step =>
    rintro k c st' hak hkn ⟨rfl, b1, b2, b3⟩
    rw [(by omega : min k n = k)] at b3
    refine wpS_bind (wpS_mono (wpS_forRange (I := fun x c st'' => st'' = st' ∧ ∃ l r, c = (none, l, r) ∧ l ≤ r ∧ r ≤ k ∧ r - l ≤ k - x ∧ (∀ i, lo ≤ i → i < lo + l → K (arrOf st') i ≤ K (arrOf st') (lo + k)) ∧ (∀ i, lo + r ≤ i → i < lo + k → K (arrOf st') (lo + k) < K (arrOf st') i))
      (Q := fun c st'' => st'' = st' ∧ ∃ l r, c = (none, l, r) ∧ l ≤ k ∧ (∀ i, lo ≤ i → i < lo + l → K (arrOf st') i ≤ K (arrOf st') (lo + k)) ∧ (∀ i, lo + l ≤ i → i < lo + k → K (arrOf st') (lo + k) < K (arrOf st') i)) ?s2 ?f2 ⟨rfl, 0, k, rfl, by omega, by omega, by omega, fun i a b => by omega, fun i a b => by omega⟩) ?p2)
    case f2 =>
      rintro c st'' ⟨rfl, l, r, rfl, c1, c2, c3, c4, c5⟩
      obtain rfl : l = r := by omega
      exact ⟨rfl, l, l, rfl, c2, c4, c5⟩
    case s2 =>
      rintro x c st'' _ hx ⟨rfl, l, r, rfl, c1, c2, c3, c4, c5⟩
      dsimp only
      refine wpS_ite (fun e => ?_) (fun e => ?_)
      · obtain rfl : l = r := by omega
        exact wpS_pure ⟨rfl, l, l, rfl, c2, c4, c5⟩
      · refine wpS_bind (wpS_ltB b1 h0 (by omega) (by omega) ?_)
        dsimp only
        refine wpS_ite (fun e1 => ?_) (fun e1 => ?_)
        · have e1 := of_decide_eq_true e1
          refine wpS_pure ⟨rfl, l, (l + r) / 2, rfl, by omega, by omega, by omega, c4, fun i a b => ?_⟩
          exact Int.lt_of_lt_of_le e1 (b3 _ _ (by omega) a b)
        · have e1 : ¬ K (arrOf st'') (lo + k) < K (arrOf st'') (lo + (l + r) / 2) := fun z => e1 (decide_eq_true z)
          refine wpS_pure ⟨rfl, (l + r) / 2 + 1, r, rfl, by omega, by omega, by omega, fun i a b => ?_, c5⟩
          exact Int.le_trans (b3 i (lo + (l + r) / 2) a (by omega) (by omega)) (Int.not_lt.mp e1)
    case p2 =>
      rintro c st'' ⟨rfl, l, r, rfl, c2, c4, c5⟩
      dsimp only
      refine wpS_bind (wpS_modify ?_)
      have hz : lo + k < (arrOf st'').size := by rw [b1.size]; omega
      refine wpS_pure ⟨rfl, b1.arr (bubble_perm _ _ _), fun i hi => ?_, ?_⟩
      · refine Eq.trans ?_ (b2 i hi)
        show (bubble (arrOf st'') (lo + k) (lo + k - (lo + l)))[i]? = _
        rw [getElem?_bubble hz _ (by omega), if_neg (by omega), if_neg (by omega)]
      · rw [(by omega : min (k + 1) n = k + 1)]
        intro i j a b c
        show K (bubble (arrOf st'') (lo + k) (lo + k - (lo + l))) i ≤ K (bubble (arrOf st'') (lo + k) (lo + k - (lo + l))) j
        rw [K_bubble hz (by omega), K_bubble hz (by omega), (by omega : lo + k - (lo + k - (lo + l)) = lo + l)]
        repeat' split
        all_goals first
          | (exfalso; omega)
          | exact Int.le_refl _
          | exact c4 _ (by omega) (by omega)
          | exact Int.le_of_lt (c5 _ (by omega) (by omega))
          | exact b3 _ _ (by omega) (by omega) (by omega)
end
end Srt

set_option Elab.async false
set_option linter.all false
set_option maxRecDepth 100000
set_option maxHeartbeats 1000000
namespace Srt
open PySem PyProof.Rows
theorem put_all (c : Nat) : ∀ (l : List Keyed) (o : Nat) (xs : Array Keyed), c + o + l.length ≤ xs.size →
    ((l.zipIdx o).foldl (fun a x => a.setIfInBounds (c + x.2) x.1) xs).toList = xs.toList.take (c + o) ++ (l ++ xs.toList.drop (c + o + l.length))
  | [], o, xs, _ => by
    show xs.toList = xs.toList.take (c + o) ++ ([] ++ xs.toList.drop (c + o + 0))
    rw [List.nil_append, Nat.add_zero, List.take_append_drop]
  | p :: l, o, xs, h => by
    rw [List.length_cons] at h
    rw [List.zipIdx_cons, List.foldl_cons]
    refine (put_all c l (o + 1) (xs.setIfInBounds (c + o) p) (by rw [Array.size_setIfInBounds]; omega)).trans ?_
    have hl : c + o < xs.toList.length := by rw [Array.length_toList]; omega
    have e : (xs.setIfInBounds (c + o) p).toList = xs.toList.take (c + o) ++ p :: xs.toList.drop (c + o + 1) := by
      rw [Array.toList_setIfInBounds, List.set_eq_take_append_cons_drop, if_pos hl]
    have lt : (xs.toList.take (c + o)).length = c + o := by rw [List.length_take]; omega
    have e1 : (xs.setIfInBounds (c + o) p).toList.take (c + (o + 1)) = xs.toList.take (c + o) ++ [p] := by
      rw [e, List.take_append, lt, List.take_of_length_le (by omega), (by omega : c + (o + 1) - (c + o) = 1)]
      rfl
    have e2 : (xs.setIfInBounds (c + o) p).toList.drop (c + (o + 1) + l.length) = xs.toList.drop (c + o + (l.length + 1)) := by
      rw [e, List.drop_append, lt, List.drop_eq_nil_of_le (by omega), List.nil_append, (by omega : c + (o + 1) + l.length - (c + o) = l.length + 1), List.drop_succ_cons, List.drop_drop]
      congr 1
      omega
    rw [e1, e2, List.append_assoc]
    rfl
theorem sd_of {xs : Array Keyed} {lo m : Nat} (h : SIn xs lo (lo + m)) (hs : lo + m ≤ xs.size) : Sd ((xs.toList.drop lo).take m) := by
  refine List.pairwise_iff_getElem.mpr fun i j hi hj hij => ?_
  have li : i < m := by rw [List.length_take] at hi; omega
  have lj : j < m := by rw [List.length_take] at hj; omega
  have z := h (lo + i) (lo + j) (by omega) (by omega) (by omega)
  rw [K_key (getElem?_pos xs (lo + i) (by omega)), K_key (getElem?_pos xs (lo + j) (by omega))] at z
  simpa [List.getElem_take, List.getElem_drop] using z
theorem byd_down (left : Bool) {x u v : Int} (h : u ≤ v) (e : byd left x v = true) : byd left x u = true := by
  cases left with
  | true =>
    have e := byd_L.1 e
    exact decide_eq_true (by omega)
  | false =>
    have e := byd_R.1 e
    show (!decide (x < u)) = true
    rw [decide_eq_false (by omega)]
    rfl
theorem wpS_set {M : Model} {A : Around} {E : Value → Shared → Prop} {s : Shared} {st st' : SortSt} {Q : PUnit → SortSt → Prop} (h : Q ⟨⟩ st') : wpS M A E s (set st' : StateT SortSt Sem PUnit) Q st := by
  unfold wpS
  rw [StateT.run_set]
  exact wpAny_pure ⟨rfl, h⟩
theorem SIn.of {xs : Array Keyed} (h : Sd xs.toList) {n : Nat} (e : n = xs.size) : SIn xs 0 n := fun i j _ b c => h.K_le b (by omega)
theorem keys_sub {a b : Array Keyed} (h : IntKeys a) (hs : ∀ p ∈ b.toList, p ∈ a.toList) : IntKeys b := fun p hp => h p (hs p hp)
section
variable {prog : Program} {w : World} {A : Around} {E : Value → Shared → Prop} {s : Shared} {a₀ : Array Keyed} {P : Array (Nat × Nat × Nat)}
theorem wpS_mergeAt {st : SortSt} {n1 n2 pw p0 : Nat} {Q : Bool → SortSt → Prop} (h0 : IntKeys a₀) (hn : n1 + n2 = a₀.size) (g1 : 1 ≤ n1) (g2 : 1 ≤ n2) (hB : Bs a₀ #[(0, n1, pw), (n1, n2, p0)] st)
    (s1 : SIn (arrOf st) 0 n1) (s2 : SIn (arrOf st) n1 (n1 + n2)) (h : ∀ st', Bs a₀ #[(0, n1 + n2, pw)] st' → SIn (arrOf st') 0 a₀.size → Q true st') : wpS (model prog w) A E s (mergeAt' 0) Q st := by
  refine wpS_bind (wpS_get ?_)
  have e1 : (pendingOf st)[0]? = some (0, n1, pw) := by rw [hB.pend]; rfl
  have e2 : (pendingOf st)[0 + 1]? = some (n1, n2, p0) := by rw [hB.pend]; rfl
  have e3 : ((pendingOf st).setIfInBounds 0 (0, n1 + n2, pw)).eraseIdxIfInBounds (0 + 1) = #[(0, n1 + n2, pw)] := by
    rw [hB.pend]
    refine Array.toList_inj.mp ?_
    rw [Array.toList_eraseIdxIfInBounds]
    rfl
  dsimp only
  rw [e1, e2]
  dsimp only
  rw [e3]
  have hz : (arrOf st).size = n1 + n2 := by rw [hB.size]; omega
  have hK := hB.keys h0
  have sA : Sd ((arrOf st).toList.take n1) := by
    have z := sd_of (lo := 0) (m := n1) (by rw [Nat.zero_add]; exact s1) (by omega)
    exact z
  have lB : ((arrOf st).toList.drop n1).length = n2 := by rw [List.length_drop, Array.length_toList]; omega
  have sB : Sd ((arrOf st).toList.drop n1) := by
    have z := sd_of (lo := n1) (m := n2) s2 (by omega)
    rw [List.take_of_length_le (by omega)] at z
    exact z
  refine wpS_bind (wpS_set ?_)
  have hB2 : Bs a₀ #[(0, n1 + n2, pw)] (setPending st #[(0, n1 + n2, pw)]) := ⟨hB.perm, hB.kind, hB.failed, rfl⟩
  -- the whole as it stands, where the one ends below the other's start
  have fin : ∀ c : K (arrOf st) (n1 - 1) ≤ K (arrOf st) n1, Q true (setPending st #[(0, n1 + n2, pw)]) := fun c => by
    refine h _ hB2 fun i j a b d => ?_
    by_cases hj : j < n1
    · exact s1 i j a b hj
    · by_cases hi : n1 ≤ i
      · exact s2 i j hi b (by omega)
      · have z1 := s1 i (n1 - 1) a (by omega) (by omega)
        have z2 := s2 n1 j (Nat.le_refl _) (by omega) (by omega)
        exact Int.le_trans z1 (Int.le_trans c z2)
  obtain ⟨t0, q0, f0⟩ := keyAt hK (i := n1) (by omega)
  refine wpS_bind (wpS_elem f0 ?_)
  obtain ⟨k, hk, k1, k2⟩ : ∃ p, p ≤ n1 ∧ (∀ t, t < p → byd false (K (arrOf st) n1) (K (arrOf st) (0 + t)) = true) ∧ ∀ t, p ≤ t → t < n1 → byd false (K (arrOf st) n1) (K (arrOf st) (0 + t)) = false := by
    refine cut_at n1 (fun t => byd false (K (arrOf st) n1) (K (arrOf st) (0 + t))) fun u v a b c => byd_down _ (s1 (0 + u) (0 + v) (by omega) (by omega) (by omega)) c
  refine wpS_bind (wpS_gal hK hB.kind (show 0 + n1 ≤ (arrOf st).size by omega) (by omega) hk k1 k2 ?_)
  dsimp only
  refine wpS_ite (fun c1 => ?_) (fun c1 => ?_)
  · have c1 := beq_iff_eq.mp c1
    have z := byd_R.1 (k1 (n1 - 1) (by omega))
    rw [Nat.zero_add] at z
    exact wpS_pure (fin z)
  have c1 : ¬ n1 - k = 0 := fun z => c1 (beq_iff_eq.mpr z)
  rw [(by omega : 0 + k + (n1 - k) - 1 = n1 - 1)]
  obtain ⟨t1, q1, f1⟩ := keyAt hK (i := n1 - 1) (by omega)
  refine wpS_bind (wpS_elem f1 ?_)
  obtain ⟨nb, hnb, b1, b2⟩ : ∃ p, p ≤ n2 ∧ (∀ t, t < p → byd true (K (arrOf st) (n1 - 1)) (K (arrOf st) (n1 + t)) = true) ∧ ∀ t, p ≤ t → t < n2 → byd true (K (arrOf st) (n1 - 1)) (K (arrOf st) (n1 + t)) = false := by
    refine cut_at n2 (fun t => byd true (K (arrOf st) (n1 - 1)) (K (arrOf st) (n1 + t))) fun u v a b c => byd_down _ (s2 (n1 + u) (n1 + v) (by omega) (by omega) (by omega)) c
  refine wpS_bind (wpS_gal hK hB.kind (show n1 + n2 ≤ (arrOf st).size by omega) (by omega) hnb b1 b2 ?_)
  dsimp only
  refine wpS_ite (fun c2 => ?_) (fun c2 => ?_)
  · have c2 := beq_iff_eq.mp c2
    have z := byd_L.2 (b2 0 (by omega) (by omega))
    exact wpS_pure (fin z)
  have c2 : ¬ nb = 0 := fun z => c2 (beq_iff_eq.mpr z)
  rw [Nat.zero_add]
  -- the two middles
  have eA : ((arrOf st).extract k n1).toList = ((arrOf st).toList.drop k).take (n1 - k) := by
    rw [Array.toList_extract, List.extract_eq_take_drop]
  have eB : ((arrOf st).extract n1 (n1 + nb)).toList = ((arrOf st).toList.drop n1).take nb := ext_list _ _ _
  have zA : ((arrOf st).extract k n1).size = n1 - k := by rw [Array.size_extract]; omega
  have zB : ((arrOf st).extract n1 (n1 + nb)).size = nb := by rw [Array.size_extract]; omega
  have eA' : ((arrOf st).extract k n1).toList = ((arrOf st).toList.take n1).drop k := by rw [eA, List.drop_take]
  have sdA : Sd ((arrOf st).extract k n1).toList := by rw [eA']; exact sA.sublist (List.drop_sublist _ _)
  have sdB : Sd ((arrOf st).extract n1 (n1 + nb)).toList := by rw [eB]; exact sB.sublist (List.take_sublist _ _)
  have kA : IntKeys ((arrOf st).extract k n1) := keys_sub hK fun p hp => by rw [eA] at hp; exact List.mem_of_mem_drop (List.mem_of_mem_take hp)
  have kB : IntKeys ((arrOf st).extract n1 (n1 + nb)) := keys_sub hK fun p hp => by rw [eB] at hp; exact List.mem_of_mem_drop (List.mem_of_mem_take hp)
  have KA : ∀ t, t < n1 - k → K ((arrOf st).extract k n1) t = K (arrOf st) (k + t) := fun t ht => by
    unfold K
    rw [Array.getElem?_extract, if_pos (by omega)]
  have KB : ∀ t, t < nb → K ((arrOf st).extract n1 (n1 + nb)) t = K (arrOf st) (n1 + t) := fun t ht => by
    unfold K
    rw [Array.getElem?_extract, if_pos (by omega)]
  have atA : ∀ y ∈ ((arrOf st).extract k n1).toList, ∃ t, k ≤ t ∧ t < n1 ∧ key y = K (arrOf st) t := fun y hy => by
    obtain ⟨t, ht⟩ := List.mem_iff_getElem?.mp hy
    have l : t < n1 - k := by
      obtain ⟨q, _⟩ := List.getElem?_eq_some_iff.mp ht
      rw [Array.length_toList, zA] at q
      exact q
    rw [lst] at ht
    exact ⟨k + t, by omega, by omega, by rw [← KA t l, K_key ht]⟩
  have atB : ∀ y ∈ ((arrOf st).extract n1 (n1 + nb)).toList, ∃ t, t < nb ∧ key y = K (arrOf st) (n1 + t) := fun y hy => by
    obtain ⟨t, ht⟩ := List.mem_iff_getElem?.mp hy
    have l : t < nb := by
      obtain ⟨q, _⟩ := List.getElem?_eq_some_iff.mp ht
      rw [Array.length_toList, zB] at q
      exact q
    rw [lst] at ht
    exact ⟨t, l, by rw [← KB t l, K_key ht]⟩
  have hf : ∀ y ∈ ((arrOf st).extract k n1).toList, K ((arrOf st).extract n1 (n1 + nb)) 0 ≤ key y := fun y hy => by
    obtain ⟨t, a, b, e⟩ := atA y hy
    rw [e, KB 0 (by omega)]
    have z := byd_R.2 (k2 t a b)
    rw [Nat.zero_add] at z
    exact Int.le_of_lt z
  have hl : ∀ y ∈ ((arrOf st).extract n1 (n1 + nb)).toList, key y ≤ K ((arrOf st).extract k n1) (((arrOf st).extract k n1).size - 1) := fun y hy => by
    obtain ⟨t, a, e⟩ := atB y hy
    rw [e, zA, KA _ (by omega), (by omega : k + (n1 - k - 1) = n1 - 1)]
    exact Int.le_of_lt (byd_L.1 (b1 t a))
  -- the end
  have last : ∀ (r : Array Keyed) (st' : SortSt), Sm (setPending st #[(0, n1 + n2, pw)]) st' → Mgd ((arrOf st).extract k n1) ((arrOf st).extract n1 (n1 + nb)) r →
      Q ((failedOf st').isNone) (setArr st' (r.toList.zipIdx.foldl (fun a x => a.setIfInBounds (k + x.2) x.1) (arrOf st'))) := fun r st' sm mg => by
    have ea : arrOf st' = arrOf st := sm.2.1
    have ef : failedOf st' = none := sm.2.2.2.trans hB.failed
    rw [ef, ea]
    have lr : r.toList.length = (n1 - k) + nb := by
      rw [mg.1.length_eq, List.length_append, Array.length_toList, Array.length_toList, zA, zB]
    have ep := put_all k r.toList 0 (arrOf st) (by omega)
    rw [lr, Nat.add_zero, (by omega : k + (n1 - k + nb) = n1 + nb)] at ep
    have eL : (arrOf st).toList = (arrOf st).toList.take k ++ ((((arrOf st).extract k n1).toList ++ ((arrOf st).extract n1 (n1 + nb)).toList) ++ (arrOf st).toList.drop (n1 + nb)) := by
      have u1 : (arrOf st).toList.drop n1 = ((arrOf st).toList.drop n1).take nb ++ (arrOf st).toList.drop (n1 + nb) := by
        rw [← List.drop_drop]
        exact (List.take_append_drop _ _).symm
      have u2 : (arrOf st).toList.drop k = ((arrOf st).toList.drop k).take (n1 - k) ++ (arrOf st).toList.drop n1 := by
        have z := List.drop_drop (i := n1 - k) (j := k) (l := (arrOf st).toList)
        rw [(by omega : k + (n1 - k) = n1)] at z
        rw [← z]
        exact (List.take_append_drop _ _).symm
      rw [eA, eB, List.append_assoc, ← u1, ← u2]
      exact (List.take_append_drop _ _).symm
    have pm : (r.toList.zipIdx.foldl (fun a x => a.setIfInBounds (k + x.2) x.1) (arrOf st)).Perm (arrOf st) := by
      refine Array.perm_iff_toList_perm.mpr ?_
      rw [ep]
      refine List.Perm.trans ?_ (List.Perm.of_eq eL.symm)
      exact List.Perm.append_left _ (List.Perm.append_right _ mg.1)
    have hk1 : ∀ x ∈ (arrOf st).toList.take k, ∃ t, t < k ∧ key x = K (arrOf st) t := fun x hx => by
      obtain ⟨t, ht⟩ := List.mem_iff_getElem?.mp hx
      rw [List.getElem?_take] at ht
      by_cases l : t < k
      · rw [if_pos l, lst] at ht
        exact ⟨t, l, (K_key ht).symm⟩
      · rw [if_neg l] at ht
        cases ht
    have hk2 : ∀ y ∈ (arrOf st).toList.drop (n1 + nb), ∃ t, nb ≤ t ∧ t < n2 ∧ key y = K (arrOf st) (n1 + t) := fun y hy => by
      obtain ⟨t, ht⟩ := List.mem_iff_getElem?.mp hy
      rw [List.getElem?_drop, lst] at ht
      obtain ⟨q, _⟩ := Array.getElem?_eq_some_iff.mp ht
      refine ⟨nb + t, by omega, by omega, ?_⟩
      rw [← K_key ht]
      congr 1
      omega
    have bt : ∀ y ∈ r.toList, (∃ t, k ≤ t ∧ t < n1 ∧ key y = K (arrOf st) t) ∨ ∃ t, t < nb ∧ key y = K (arrOf st) (n1 + t) := fun y hy => by
      rcases List.mem_append.mp (mg.1.mem_iff.mp hy) with z | z
      · exact .inl (atA y z)
      · exact .inr (atB y z)
    have sd : Sd (r.toList.zipIdx.foldl (fun a x => a.setIfInBounds (k + x.2) x.1) (arrOf st)).toList := by
      rw [ep]
      have low : ∀ t, t < k → K (arrOf st) t ≤ K (arrOf st) n1 := fun t ht => by
        have z := byd_R.1 (k1 t ht)
        rw [Nat.zero_add] at z
        exact z
      have high : ∀ t, nb ≤ t → t < n2 → K (arrOf st) (n1 - 1) ≤ K (arrOf st) (n1 + t) := fun t a b => byd_L.2 (b2 t a b)
      refine List.pairwise_append.mpr ⟨?_, List.pairwise_append.mpr ⟨mg.2, ?_, fun x hx y hy => ?_⟩, fun x hx y hy => ?_⟩
      · have q : Sd (((arrOf st).toList.take n1).take k) := sA.sublist (List.take_sublist _ _)
        rw [List.take_take, Nat.min_eq_left hk] at q
        exact q
      · have q : Sd (((arrOf st).toList.drop n1).drop nb) := sB.sublist (List.drop_sublist _ _)
        rw [List.drop_drop] at q
        exact q
      · obtain ⟨v, v1, v2, ey⟩ := hk2 y hy
        rw [ey]
        rcases bt x hx with ⟨t, a, b, e⟩ | ⟨t, a, e⟩
        · rw [e]
          exact Int.le_trans (s1 t (n1 - 1) (by omega) (by omega) (by omega)) (high v v1 v2)
        · rw [e]
          exact s2 _ _ (by omega) (by omega) (by omega)
      · obtain ⟨u, u1, ex⟩ := hk1 x hx
        rw [ex]
        rcases List.mem_append.mp hy with hy | hy
        · rcases bt y hy with ⟨t, a, b, e⟩ | ⟨t, a, e⟩
          · rw [e]
            exact s1 u t (by omega) (by omega) b
          · rw [e]
            exact Int.le_trans (low u u1) (s2 n1 (n1 + t) (by omega) (by omega) (by omega))
        · obtain ⟨v, v1, v2, ey⟩ := hk2 y hy
          rw [ey]
          exact Int.le_trans (low u u1) (s2 n1 (n1 + v) (by omega) (by omega) (by omega))
    refine h _ ⟨pm.trans hB.perm, sm.1.trans hB.kind, ef, sm.2.2.1⟩ (SIn.of sd ?_)
    rw [pm.size_eq, hB.size]
  refine wpS_ite (fun c3 => ?_) (fun c3 => ?_)
  · refine wpS_bind (wpS_mLo kA kB sdA sdB hB.kind (show 1 ≤ ((arrOf st).extract k n1).size by omega) (show 1 ≤ ((arrOf st).extract n1 (n1 + nb)).size by omega) hf hl fun r st' sm mg => ?_)
    refine wpS_bind (wpS_modify ?_)
    refine wpS_bind (wpS_get ?_)
    exact wpS_pure (last r st' sm mg)
  · refine wpS_bind (wpS_mHi kA kB sdA sdB hB.kind (show 1 ≤ ((arrOf st).extract k n1).size by omega) (show 1 ≤ ((arrOf st).extract n1 (n1 + nb)).size by omega) hf hl fun r st' sm mg => ?_)
    refine wpS_bind (wpS_modify ?_)
    refine wpS_bind (wpS_get ?_)
    exact wpS_pure (last r st' sm mg)
end
end Srt

set_option Elab.async false
set_option linter.all false
set_option maxRecDepth 100000
set_option maxHeartbeats 1000000
namespace Srt
open PySem PyProof.Rows
section
variable {prog : Program} {w : World} {A : Around} {E : Value → Shared → Prop} {s : Shared} {a₀ : Array Keyed} {P : Array (Nat × Nat × Nat)}
theorem run_min {n : Nat} (h1 : 64 ≤ n) (h2 : n < 128) : minRun' n n 0 = n / 2 + n % 2 := by
  obtain ⟨f, hf⟩ : ∃ f, n = f + 1 + 1 := ⟨n - 2, by omega⟩
  have e : minRun' (f + 1 + 1) n 0 = n / 2 + n % 2 := by
    rw [minRun'_succ, if_neg (by omega), minRun'_succ, if_pos (by omega), Nat.max_eq_right (Nat.zero_le _)]
  rwa [← hf] at e
/-- one run is left; two are left -/
def One (a₀ : Array Keyed) (st : SortSt) : Prop := ∃ pr, Bs a₀ #[pr] st ∧ SIn (arrOf st) 0 a₀.size
def Two (a₀ : Array Keyed) (st : SortSt) : Prop := ∃ n1 n2 pw, Bs a₀ #[(0, n1, pw), (n1, n2, 0)] st ∧ n1 + n2 = a₀.size ∧ 1 ≤ n1 ∧ 1 ≤ n2 ∧ SIn (arrOf st) 0 n1 ∧ SIn (arrOf st) n1 (n1 + n2)
theorem wpS_runs {st : SortSt} {Q : Unit → SortSt → Prop} (h0 : IntKeys a₀) (hd : Ds a₀) (hB : Bs a₀ #[] st) (h64 : 64 ≤ a₀.size) (h128 : a₀.size < 128)
    (h : ∀ st', (arrOf st').Perm a₀ → failedOf st' = none → SortedTo (arrOf st') a₀.size → Q () st') : wpS (model prog w) A E s sortRuns' Q st := by
  refine wpS_bind (wpS_get ?_)
  dsimp only
  rw [hB.size]
  have hmr : (sortPriv% PySem.Builtin.minRun) a₀.size a₀.size 0 = a₀.size / 2 + a₀.size % 2 := run_min h64 h128
  rw [hmr]
  refine wpS_bind (wpS_mono (wpS_forRange (I := fun x c st' => (x = 0 ∧ c = (none, 0) ∧ Bs a₀ #[] st') ∨
      (∃ n1, c = (none, n1) ∧ (x = 1 ∨ n1 = a₀.size) ∧ Bs a₀ #[(0, n1, 0)] st' ∧ SIn (arrOf st') 0 n1 ∧ a₀.size / 2 + a₀.size % 2 ≤ n1 ∧ n1 ≤ a₀.size) ∨ (c = (none, a₀.size) ∧ Two a₀ st'))
    (Q := fun c st' => c = (none, a₀.size) ∧ (One a₀ st' ∨ Two a₀ st')) ?step ?fin (.inl ⟨rfl, rfl, hB⟩)) ?post)
  case fin =>
    rintro c st' (⟨z, _, _⟩ | ⟨n1, rfl, z, b, sn, _, _⟩ | ⟨rfl, t⟩)
    · omega
    · obtain rfl : n1 = a₀.size := by omega
      exact ⟨rfl, .inl ⟨_, b, sn⟩⟩
    · exact ⟨rfl, .inr t⟩
  case step =>
    rintro x c st' _ hx (⟨rfl, rfl, b⟩ | ⟨n1, rfl, hx1, b, sn, m1, m2⟩ | ⟨rfl, t⟩)
    · dsimp only
      rw [if_neg (by omega)]
      refine wpS_bind (wpS_run h0 hd (by omega) (by omega) b fun m st2 b2 _ g1 g2 g3 => ?_)
      dsimp only
      refine wpS_ite (fun e => ?_) (fun e => ?_)
      · refine wpS_bind (wpS_lift (wpAny_rule ⟨rfl, ?_⟩))
        refine wpS_bind (wpS_ins h0 (by omega) (by omega) b2 g3 fun st3 b3 _ s3 => ?_)
        refine wpS_bind (wpS_get ?_)
        have hb : (pendingOf st3).back? = none := by rw [b3.pend]; rfl
        rw [hb]
        dsimp only
        refine wpS_bind (wpS_modify (wpS_pure (.inr (.inl ⟨_, rfl, .inl rfl, ⟨b3.perm, b3.kind, b3.failed, ?_⟩, s3, by omega, by omega⟩))))
        show (pendingOf st3).push (0, min (a₀.size - 0) (a₀.size / 2 + a₀.size % 2), 0) = _
        rw [b3.pend, Nat.zero_add]
        rfl
      · refine wpS_bind (wpS_get ?_)
        have hb : (pendingOf st2).back? = none := by rw [b2.pend]; rfl
        rw [hb]
        dsimp only
        refine wpS_bind (wpS_modify (wpS_pure (.inr (.inl ⟨_, rfl, .inl rfl, ⟨b2.perm, b2.kind, b2.failed, ?_⟩, g3, by omega, by omega⟩))))
        show (pendingOf st2).push (0, m, 0) = _
        rw [b2.pend, Nat.zero_add]
        rfl
    · dsimp only
      refine wpS_ite (fun e => ?_) (fun e => ?_)
      · obtain rfl : n1 = a₀.size := by omega
        exact wpS_pure ⟨rfl, .inl ⟨_, b, sn⟩⟩
      · obtain rfl : x = 1 := by omega
        have keep : ∀ {st3 : SortSt}, Pre n1 (arrOf st') (arrOf st3) → SIn (arrOf st3) 0 n1 := fun pr i j u v y => by
          rw [K_congr (pr i (by omega)), K_congr (pr j y)]
          exact sn i j u v y
        refine wpS_bind (wpS_run h0 hd (by omega) (by omega) b fun m st2 b2 pr2 g1 g2 g3 => ?_)
        dsimp only
        refine wpS_ite (fun e => ?_) (fun e => ?_)
        · refine wpS_bind (wpS_lift (wpAny_rule ⟨rfl, ?_⟩))
          rw [(by omega : min (a₀.size - n1) (a₀.size / 2 + a₀.size % 2) = a₀.size - n1)]
          refine wpS_bind (wpS_ins h0 (by omega) (by omega) b2 g3 fun st3 b3 pr3 s3 => ?_)
          have pr : Pre n1 (arrOf st') (arrOf st3) := fun i hi => (pr3 i hi).trans (pr2 i hi)
          refine wpS_bind (wpS_get ?_)
          have hb : (pendingOf st3).back? = some (0, n1, 0) := by rw [b3.pend]; rfl
          rw [hb]
          dsimp only
          refine wpS_bind (wpS_mono (wpS_forRange (I := fun _ c st'' => st'' = st3 ∧ c = (none, ())) (Q := fun c st'' => st'' = st3 ∧ c = (none, ())) ?s4 (fun _ _ z => z) ⟨rfl, rfl⟩) ?p4)
          case s4 =>
            rintro y c st'' _ _ ⟨rfl, rfl⟩
            refine wpS_bind (wpS_get ?_)
            have hp : (sortPriv% PySem.Builtin.SortState.pending) st'' = #[(0, n1, 0)] := b3.pend
            rw [hp]
            exact wpS_pure ⟨rfl, rfl⟩
          case p4 =>
            rintro c st'' ⟨rfl, rfl⟩
            dsimp only
            refine wpS_bind (wpS_modify (wpS_bind (wpS_modify (wpS_pure (.inr (.inr ⟨?_, n1, a₀.size - n1, power' a₀.size (2 * 0 + n1) (2 * 0 + n1 + n1 + (a₀.size - n1)) a₀.size, ⟨b3.perm, b3.kind, b3.failed, ?_⟩, by omega, by omega, by omega, (keep pr), s3⟩))))))
            · rw [(by omega : n1 + (a₀.size - n1) = a₀.size)]
            · show ((pendingOf _).modify ((pendingOf _).size - 1) _).push _ = _
              rw [b3.pend]
              rfl
        · obtain rfl : m = a₀.size - n1 := by omega
          refine wpS_bind (wpS_get ?_)
          have hb : (pendingOf st2).back? = some (0, n1, 0) := by rw [b2.pend]; rfl
          rw [hb]
          dsimp only
          refine wpS_bind (wpS_mono (wpS_forRange (I := fun _ c st'' => st'' = st2 ∧ c = (none, ())) (Q := fun c st'' => st'' = st2 ∧ c = (none, ())) ?s4 (fun _ _ z => z) ⟨rfl, rfl⟩) ?p4)
          case s4 =>
            rintro y c st'' _ _ ⟨rfl, rfl⟩
            refine wpS_bind (wpS_get ?_)
            have hp : (sortPriv% PySem.Builtin.SortState.pending) st'' = #[(0, n1, 0)] := b2.pend
            rw [hp]
            exact wpS_pure ⟨rfl, rfl⟩
          case p4 =>
            rintro c st'' ⟨rfl, rfl⟩
            dsimp only
            refine wpS_bind (wpS_modify (wpS_bind (wpS_modify (wpS_pure (.inr (.inr ⟨?_, n1, a₀.size - n1, power' a₀.size (2 * 0 + n1) (2 * 0 + n1 + n1 + (a₀.size - n1)) a₀.size, ⟨b2.perm, b2.kind, b2.failed, ?_⟩, by omega, by omega, by omega, (keep pr2), g3⟩))))))
            · rw [(by omega : n1 + (a₀.size - n1) = a₀.size)]
            · show ((pendingOf _).modify ((pendingOf _).size - 1) _).push _ = _
              rw [b2.pend]
              rfl
    · dsimp only
      rw [if_pos (Nat.le_refl _)]
      exact wpS_pure ⟨rfl, .inr t⟩
  case post =>
    rintro c st' ⟨rfl, hc⟩
    dsimp only
    refine wpS_bind (wpS_mono (wpS_forRange (I := fun x c st'' => c = (none, ()) ∧ (One a₀ st'' ∨ (x = 0 ∧ Two a₀ st''))) (Q := fun c st'' => c = (none, ()) ∧ One a₀ st'') ?s2 ?f2 ⟨rfl, hc.imp id fun z => ⟨rfl, z⟩⟩) ?p2)
    case f2 =>
      rintro c st'' ⟨rfl, z | ⟨z, _⟩⟩
      · exact ⟨rfl, z⟩
      · omega
    case s2 =>
      rintro x c st'' _ hx ⟨rfl, ⟨pr, b, sn⟩ | ⟨rfl, n1, n2, pw, b, e, g1, g2, s1, s2⟩⟩
      · refine wpS_bind (wpS_get ?_)
        have hp : (sortPriv% PySem.Builtin.SortState.pending) st'' = #[pr] := b.pend
        rw [hp, if_pos (show #[pr].size ≤ 1 from Nat.le_refl 1)]
        exact wpS_pure ⟨rfl, pr, b, sn⟩
      · refine wpS_bind (wpS_get ?_)
        have hp : (sortPriv% PySem.Builtin.SortState.pending) st'' = #[(0, n1, pw), (n1, n2, 0)] := b.pend
        rw [hp, if_neg (show ¬ #[(0, n1, pw), (n1, n2, 0)].size ≤ 1 from (by decide : ¬ 2 ≤ 1))]
        refine wpS_bind (wpS_mergeAt h0 e g1 g2 b s1 s2 fun st3 b3 s3 => ?_)
        exact wpS_pure ⟨rfl, .inl ⟨_, b3, s3⟩⟩
    case p2 =>
      rintro c st'' ⟨rfl, pr, b, sn⟩
      exact wpS_pure (h st'' b.perm b.failed fun i j u v => sn i j (Nat.zero_le _) u v)
end
end Srt

set_option Elab.async false
set_option linter.all false
set_option maxRecDepth 100000
set_option maxHeartbeats 1000000
namespace Srt
open PySem PyProof.Rows
/-- the places of a set's table rise -/
def Rs (p : Array Nat) : Prop := p.toList.Pairwise (· < ·)
theorem Rs.lt {p : Array Nat} (h : Rs p) {i j : Nat} (hij : i < j) (hj : j < p.size) : p[i]'(by omega) < p[j] := by
  have q := List.pairwise_iff_getElem.mp h i j (by simpa using Nat.lt_trans hij hj) (by simpa using hj) hij
  simpa using q
theorem Rs.le {p : Array Nat} (h : Rs p) {i j : Nat} (hij : i ≤ j) (hj : j < p.size) : p[i]'(by omega) ≤ p[j] := by
  rcases Nat.lt_or_eq_of_le hij with z | z
  · exact Nat.le_of_lt (h.lt z hj)
  · subst z
    exact Nat.le_refl _
theorem below_go {p : Array Nat} (h : Rs p) (x : Nat) : ∀ (f lo hi : Nat), hi ≤ p.size → hi - lo ≤ f → lo ≤ hi → (∀ i (q : i < p.size), i < lo → p[i] < x) → (∀ i (q : i < p.size), hi ≤ i → x ≤ p[i]) →
    SetTable.below.go p x f lo hi ≤ p.size ∧ (∀ i (q : i < p.size), i < SetTable.below.go p x f lo hi → p[i] < x) ∧ ∀ i (q : i < p.size), SetTable.below.go p x f lo hi ≤ i → x ≤ p[i]
  | 0, lo, hi, a, b, c, d, e => by
    obtain rfl : lo = hi := by omega
    exact ⟨a, d, e⟩
  | f + 1, lo, hi, a, b, c, d, e => by
    unfold SetTable.below.go
    by_cases z : lo < hi
    · rw [if_pos z]
      have hm : (lo + hi) / 2 < p.size := by omega
      have g : p.getD ((lo + hi) / 2) x = p[(lo + hi) / 2] := by rw [Array.getD_eq_getD_getElem?, getElem?_pos p _ hm]; rfl
      dsimp only
      rw [g]
      by_cases y : p[(lo + hi) / 2] < x
      · rw [if_pos y]
        exact below_go h x f _ hi a (by omega) (by omega) (fun i q r => Nat.lt_of_le_of_lt (h.le (by omega) hm) y) e
      · rw [if_neg y]
        exact below_go h x f lo _ (by omega) (by omega) (by omega) d fun i q r => Nat.le_trans (Nat.le_of_not_lt y) (h.le r q)
    · rw [if_neg z]
      obtain rfl : lo = hi := by omega
      exact ⟨a, d, e⟩
theorem below_is {p : Array Nat} (h : Rs p) (x : Nat) : SetTable.below p x ≤ p.size ∧ (∀ i (q : i < p.size), i < SetTable.below p x → p[i] < x) ∧ ∀ i (q : i < p.size), SetTable.below p x ≤ i → x ≤ p[i] :=
  below_go h x p.size 0 p.size (Nat.le_refl _) (by omega) (Nat.zero_le _) (fun i q r => absurd r (by omega)) fun i q r => absurd r (by omega)
theorem below_eq {p : Array Nat} (h : Rs p) {x n : Nat} (hn : n ≤ p.size) (h1 : ∀ i (q : i < p.size), i < n → p[i] < x) (h2 : ∀ i (q : i < p.size), n ≤ i → x ≤ p[i]) : SetTable.below p x = n := by
  obtain ⟨a, b, c⟩ := below_is h x
  rcases Nat.lt_trichotomy (SetTable.below p x) n with z | z | z
  · have u := h1 _ (by omega) z
    have v := c (SetTable.below p x) (by omega) (Nat.le_refl _)
    omega
  · exact z
  · have u := b n (by omega) z
    have v := h2 n (by omega) (Nat.le_refl _)
    omega
theorem Rs.put {p : Array Nat} (h : Rs p) {x : Nat} (hx : p[SetTable.below p x]? ≠ some x) : Rs (SetTable.insertAt p (SetTable.below p x) x) := by
  obtain ⟨a, b, c⟩ := below_is h x
  unfold Rs
  rw [SetTable.toList_insertAt]
  refine List.pairwise_append.mpr ⟨h.sublist (List.take_sublist _ _), List.pairwise_cons.mpr ⟨fun y hy => ?_, h.sublist (List.drop_sublist _ _)⟩, fun u hu y hy => ?_⟩
  · obtain ⟨i, hi⟩ := List.mem_iff_getElem?.mp hy
    rw [List.getElem?_drop, Array.getElem?_toList] at hi
    obtain ⟨q, rfl⟩ := Array.getElem?_eq_some_iff.mp hi
    have z := c _ q (by omega)
    rcases Nat.lt_or_eq_of_le z with z | z
    · exact z
    · exfalso
      rcases Nat.eq_zero_or_pos i with e | e
      · subst e
        refine hx ?_
        rw [Array.getElem?_eq_some_iff]
        exact ⟨q, z.symm⟩
      · have w := c (SetTable.below p x) (by omega) (Nat.le_refl _)
        have v := h.lt (i := SetTable.below p x) (j := SetTable.below p x + i) (by omega) q
        omega
  · obtain ⟨i, hi⟩ := List.mem_iff_getElem?.mp hu
    rw [List.getElem?_take] at hi
    have ux : u < x := by
      by_cases l : i < SetTable.below p x
      · rw [if_pos l, Array.getElem?_toList] at hi
        obtain ⟨q, rfl⟩ := Array.getElem?_eq_some_iff.mp hi
        exact b i q l
      · rw [if_neg l] at hi
        cases hi
    rcases List.mem_cons.mp hy with rfl | hy
    · exact ux
    · obtain ⟨k, hk⟩ := List.mem_iff_getElem?.mp hy
      rw [List.getElem?_drop, Array.getElem?_toList] at hk
      obtain ⟨q, rfl⟩ := Array.getElem?_eq_some_iff.mp hk
      exact Nat.lt_of_lt_of_le ux (c _ q (by omega))
/-- no live thing stands there -/
def Dead (t : SetTable) (j : Nat) : Prop := t.place[SetTable.below t.place j]? ≠ some j
theorem slot_dead {t : SetTable} {j : Nat} (h : ∀ i, t.slot j ≠ .live i) : Dead t j := by
  intro e
  refine h (SetTable.below t.place j) ?_
  unfold SetTable.slot
  dsimp only
  rw [if_pos (by rw [e]; exact beq_self_eq_true _)]
theorem advance_dummy (t : SetTable) (p : SetTable.Probe) : (t.advance p).dummy = p.dummy := by
  unfold SetTable.advance
  split <;> rfl
theorem probe_dead {t : SetTable} {ha : Nat → Int} {h : Int} {j : Nat} {d : Option Nat} : ∀ (f : Nat) (p : SetTable.Probe), (∀ x, p.dummy = some x → Dead t x) → SetTable.probe.go t ha h f p = some (.empty j d) → Dead t j ∧ ∀ x, d = some x → Dead t x
  | 0, p, _, e => by
    unfold SetTable.probe.go at e
    cases e
  | f + 1, p, hp, e => by
    unfold SetTable.probe.go at e
    cases hs : t.slot p.j with
    | empty =>
      rw [hs] at e
      dsimp only at e
      cases e
      exact ⟨slot_dead fun i z => (by rw [hs] at z; cases z), hp⟩
    | dummy =>
      rw [hs] at e
      dsimp only at e
      refine probe_dead f _ (fun x hx => ?_) e
      rw [advance_dummy] at hx
      cases hx
      exact slot_dead fun i z => by rw [hs] at z; cases z
    | live i =>
      rw [hs] at e
      dsimp only at e
      split at e
      · cases e
      · exact probe_dead f _ (fun x hx => hp x (by rw [advance_dummy] at hx; exact hx)) e
theorem free_dead {t : SetTable} {h : Int} {j : Nat} {b : Bool} (e : t.freeSlot h = some (j, b)) : Dead t j := by
  unfold SetTable.freeSlot at e
  split at e
  · next k d q =>
    obtain ⟨a, c⟩ := probe_dead _ _ (fun x z => by cases z) q
    cases d with
    | none =>
      cases e
      exact a
    | some x =>
      cases e
      exact c _ rfl
  · cases e
theorem standIn_rs (t : SetTable) (n : Nat) : Rs (t.standIn n).place := by
  show (Array.range n).toList.Pairwise (· < ·)
  rw [Array.toList_range]
  exact List.pairwise_lt_range
theorem layNew_rs {t : SetTable} (hr : Rs t.place) (es : Array (Int × Value)) (h : Int) (x : Value) : Rs (layNew t es h x).2.1.place ∧ (layNew t es h x).2.1.led = t.led := by
  unfold layNew
  split
  · next j b e =>
    show Rs ((t.put j).1.orStandIn _).place ∧ ((t.put j).1.orStandIn _).led = t.led
    unfold SetTable.orStandIn
    split
    · exact ⟨hr.put (free_dead e), rfl⟩
    · exact ⟨standIn_rs _ _, rfl⟩
  · exact ⟨standIn_rs _ _, rfl⟩
theorem live_rs (f : Nat → Option (Nat × Nat)) (hf : ∀ j p, f j = some p → p.1 = j) (n : Nat) : (((List.range n).filterMap f).map (·.1)).Pairwise (· < ·) := by
  rw [List.pairwise_map, List.pairwise_filterMap]
  refine List.Pairwise.imp ?_ (List.pairwise_lt_range (n := n))
  intro a b hab p hp q hq
  rw [hf a p hp, hf b q hq]
  exact hab
theorem relayAll_rs {t : SetTable} (es : Array (Int × Value)) (n : Nat) : Rs (relayAll t es n).2.1.place ∧ (relayAll t es n).2.1.led = t.led := by
  unfold relayAll
  split
  · next t' order e =>
    dsimp only
    split
    · unfold SetTable.relaid SetTable.laid at e
      cases q : SetTable.layClean (SetTable.sizeAbove n - 1) (es.map (·.1)) with
      | none =>
        rw [q] at e
        cases e
      | some owner =>
        rw [q] at e
        cases e
        refine ⟨?_, rfl⟩
        refine live_rs (fun j => (owner.getD j none).map fun x => (j, x)) (fun j p hp => ?_) _
        cases z : owner.getD j none with
        | none =>
          rw [z] at hp
          cases hp
        | some y =>
          rw [z] at hp
          cases hp
          rfl
    · exact ⟨standIn_rs _ _, rfl⟩
  · exact ⟨standIn_rs _ _, rfl⟩
theorem cons_erase {α : Type} {l : List α} {i : Nat} (hi : i < l.length) : (l[i] :: l.eraseIdx i).Perm l := by
  rw [List.eraseIdx_eq_take_drop_succ]
  refine List.perm_middle.symm.trans (List.Perm.of_eq ?_)
  rw [← List.drop_eq_getElem_cons hi, List.take_append_drop]
theorem pick_go {α : Type} (f : Nat → Nat) : ∀ (n k : Nat) (l : List α) (out : Array α), l.length ≤ n → (pickOrder.go f n k l out).toList.Perm (out.toList ++ l)
  | 0, k, l, out, h => by
    obtain rfl : l = [] := List.length_eq_zero_iff.mp (by omega)
    unfold pickOrder.go
    rw [List.append_nil]
  | n + 1, k, l, out, h => by
    unfold pickOrder.go
    cases q : l[f k % l.length]? with
    | none =>
      dsimp only
      have : l = [] := by
        cases l with
        | nil => rfl
        | cons a t =>
          have z := List.getElem?_eq_none_iff.mp q
          have w := Nat.mod_lt (f k) (show 0 < (a :: t).length from Nat.succ_pos _)
          omega
      subst this
      rw [List.append_nil]
    | some x =>
      dsimp only
      obtain ⟨hi, hx⟩ := List.getElem?_eq_some_iff.mp q
      refine (pick_go f n (k + 1) _ _ (by rw [List.length_eraseIdx_of_lt hi]; omega)).trans ?_
      rw [Array.toList_push, List.append_assoc]
      refine List.Perm.append_left _ ?_
      subst hx
      exact cons_erase hi
theorem pick_perm {α : Type} (f : Nat → Nat) (xs : Array α) : (pickOrder f xs).toList.Perm xs.toList := by
  refine (pick_go f xs.size 0 xs.toList #[] (by simp)).trans ?_
  exact List.Perm.of_eq (List.nil_append _)
section
variable {M : Model} {A : Around} {E : Value → Shared → Prop}
theorem wpAny_choose {src : Source} {n : Nat} {s : Shared} {Q : Nat → Shared → Prop} (hn : n ≠ 0) (h : ∀ i d, i < n → Q i { s with drawn := d }) : wpAny M A (choose src n) Q E s :=
  fun _ _ _ => ⟨hn, h _ _ (Nat.mod_lt _ (Nat.pos_of_ne_zero hn))⟩
theorem draw_perm {α : Type} : ∀ (n : Nat) (l : List α) (s : Shared) (Q : List α → Shared → Prop), l.length ≤ n → (∀ m d, m.Perm l → Q m { s with drawn := d }) → wpAny M A (drawOrder n l) Q E s
  | 0, l, s, Q, h, q => by
    obtain rfl : l = [] := List.length_eq_zero_iff.mp (by omega)
    unfold drawOrder
    exact wpAny_pure (q [] s.drawn (List.Perm.refl _))
  | n + 1, [], s, Q, h, q => by
    unfold drawOrder
    exact wpAny_pure (q [] s.drawn (List.Perm.refl _))
  | n + 1, a :: t, s, Q, h, q => by
    unfold drawOrder
    refine wpAny_bind (wpAny_choose (by simp) fun i d hi => ?_)
    have e : (a :: t)[i]? = some (a :: t)[i] := getElem?_pos _ i hi
    rw [e]
    dsimp only
    refine wpAny_bind (draw_perm n _ _ _ (by rw [List.length_eraseIdx_of_lt hi]; omega) fun m d' hm => ?_)
    exact wpAny_pure (q _ d' ((List.Perm.cons _ hm).trans (cons_erase hi)))
end
end Srt

set_option Elab.async false
set_option linter.all false
set_option maxRecDepth 100000
set_option maxHeartbeats 4000000
namespace Srt
open PySem PyProof.Rows
/-- whether the sets' order is told by the world's text -/
def byT (w : World) : Bool := w.params.followText "set-order"
/-- a set of ints: its members, each once -/
def IS (P : Program) (w : World) (h : Heap) (a : Addr) (l : List Int) : Prop :=
  ∃ o es ep t, h.get? a = some o ∧ o.ExactSet ∧ o.data = .set es ep t ∧ ElemsOf (intKind P w) es.toList ∧ (es.toList.map fun e => numOf e.2).Perm l ∧ l.Nodup ∧ es.size < scanBound ∧ t.fits es.size = true ∧ Rs t.place ∧ t.led = !byT w
theorem IS.keep {P : Program} {w : World} {h h' : Heap} {a : Addr} {l : List Int} (x : IS P w h a l) (k : ∀ o, h.get? a = some o → h'.get? a = some o) : IS P w h' a l := by
  obtain ⟨o, es, ep, t, ho, r⟩ := x
  exact ⟨o, es, ep, t, k o ho, r⟩
theorem IS.type {P : Program} {w : World} {s : Shared} {a : Addr} {l : List Int} (x : IS P w s.heap a l) : s.TypeIs (.ref a) "set" := by
  obtain ⟨o, es, ep, t, ho, hx, _⟩ := x
  exact ⟨o, ho, hx.1⟩
theorem IS.nd {P : Program} {w : World} {h : Heap} {a : Addr} {l : List Int} (x : IS P w h a l) : l.Nodup := by
  obtain ⟨o, es, ep, t, _, _, _, _, _, nd, _⟩ := x
  exact nd
def addL (l : List Int) (k : Int) : List Int := if k ∈ l then l else l ++ [k]
theorem addL_nd {l : List Int} {k : Int} (h : l.Nodup) : (addL l k).Nodup := by
  unfold addL
  by_cases e : k ∈ l
  · rw [if_pos e]
    exact h
  · rw [if_neg e]
    exact List.nodup_append.mpr ⟨h, List.nodup_cons.mpr ⟨List.not_mem_nil, List.nodup_nil⟩, fun a ha b hb => by rw [List.mem_singleton.mp hb]; exact fun z => e (z ▸ ha)⟩
section
variable {P : Program} {w : World} {A : Around} {E : Value → Shared → Prop} {s : Shared}
theorem IS.store {h : Heap} {a : Addr} {o : Obj} {es : Array (Int × Value)} {ep : Nat} {t : SetTable} (ho : h.get? a = some o) (hx : o.ExactSet) (hd : o.data = .set es ep t) {es' : Array (Int × Value)} {t' : SetTable} {l : List Int}
    (h1 : ElemsOf (intKind P w) es'.toList) (h2 : (es'.toList.map fun e => numOf e.2).Perm l) (h3 : l.Nodup) (h4 : es'.size < scanBound) (h5 : t'.fits es'.size = true) (h6 : Rs t'.place) (h7 : t'.led = !byT w) :
    (h.update a (Obj.putSet es' t')).get? a = some { o with data := .set es' (ep + 1) t' } ∧ IS P w (h.update a (Obj.putSet es' t')) a l := by
  have g : (h.update a (Obj.putSet es' t')).get? a = some { o with data := .set es' (ep + 1) t' } := by
    have q := Heap.get?_update_self (Obj.putSet es' t') ho (by rw [putSet_of es' t' hd]; rfl)
    rw [putSet_of es' t' hd] at q
    exact q
  exact ⟨g, _, es', ep + 1, t', g, hx, rfl, h1, h2, h3, h4, h5, h6, h7⟩
theorem way_on (b : Bool) {s₁ : Shared} {Q' : Unit → Shared → Prop} (q : Q' () s₁) : wpAny (model P w) A (match b with | true => rule "set.scan.the-table-gave-way" | false => pure ()) Q' E s₁ := by
  cases b
  · exact wpAny_pure q
  · exact wpAny_rule q
theorem add_hashed {a : Addr} {l : List Int} {k : Int} {tk : Tok} {Q : Bool → Shared → Prop} (hS : IS P w s.heap a l) (room : l.length + 1 < scanBound)
    (h : ∀ h' b, Heap.SameBut a s.heap h' → IS P w h' a (addL l k) → Q b { s with heap := h' }) : wpAny (model P w) A (setAddHashed a (.int k tk) ((intKind P w).hash k)) Q E s := by
  obtain ⟨o, es, ep, t, ho, hx, hd, hel, hpm, hnd, hb, hf, hr, hled⟩ := hS
  have hlen : es.size = l.length := by rw [← hpm.length_eq, List.length_map, Array.length_toList]
  have hkey : (intKind P w).is k (.int k tk) = true := intKind_is _ _ _ _
  have memk : k ∈ l ↔ ∃ e ∈ es.toList, (intKind P w).is k e.2 = true := by
    rw [← hpm.mem_iff, List.mem_map]
    constructor
    · rintro ⟨e, he, q⟩
      obtain ⟨⟨k', hk', _⟩, _⟩ := hel e he
      obtain ⟨t', e'⟩ := Value.isInt_shape hk'
      refine ⟨e, he, ?_⟩
      rw [e'] at q ⊢
      rw [← q]
      exact intKind_is _ _ _ _
    · rintro ⟨e, he, q⟩
      obtain ⟨t', e'⟩ := Value.isInt_shape q
      exact ⟨e, he, by rw [e']; rfl⟩
  unfold setAddHashed setAddHashedIn
  refine wpAny_holding (wpAny_bind (wpAny_setState_of ho hd hf ?_))
  dsimp only
  rw [byScan_of (x := .int k tk) rfl hb hel]
  simp only [↓reduceIte]
  unfold setAddByScan
  refine wpAny_bind (wpAny_bind (wpAny_rule (wpAny_bind (wpAny_setScan_of hkey ho hd hf hel ?_))))
  cases hq : List.findIdx? (fun e => (intKind P w).is k e.2) es.toList with
  | some j =>
    dsimp only
    obtain ⟨hj, hpj, _⟩ := List.findIdx?_eq_some_iff_getElem.mp hq
    have hk : k ∈ l := memk.mpr ⟨es.toList[j], List.getElem_mem hj, hpj⟩
    refine wpAny_pure (wpAny_pure ?_)
    refine h s.heap _ (Heap.SameBut.refl a s.heap) ?_
    rw [addL, if_pos hk]
    exact ⟨o, es, ep, t, ho, hx, hd, hel, hpm, hnd, hb, hf, hr, hled⟩
  | none =>
    dsimp only
    have hk : ¬ k ∈ l := fun z => by
      obtain ⟨e, he, q⟩ := memk.mp z
      have := List.findIdx?_eq_none_iff.mp hq e he
      rw [q] at this
      cases this
    have e1 := layNew_perm t es ((intKind P w).hash k) (.int k tk)
    have e2 := layNew_fits t es ((intKind P w).hash k) (.int k tk)
    have e3 := layNew_rs hr es ((intKind P w).hash k) (.int k tk)
    generalize layNew t es ((intKind P w).hash k) (.int k tk) = L at e1 e2 e3 ⊢
    obtain ⟨es1, t1, wd, gave⟩ := L
    dsimp only at e1 e2 e3 ⊢
    rw [Array.toList_push] at e1
    have el1 : ElemsOf (intKind P w) es1.toList := (hel.push hkey rfl).perm e1
    have pm1 : (es1.toList.map fun e => numOf e.2).Perm (addL l k) := by
      refine (e1.map _).trans ?_
      rw [List.map_append, addL, if_neg hk]
      exact List.Perm.append_right _ hpm
    have nd1 : (addL l k).Nodup := addL_nd hnd
    have b1 : es1.size < scanBound := by
      rw [← Array.length_toList, e1.length_eq, List.length_append, Array.length_toList, hlen]
      exact room
    refine wpAny_bind (way_on gave ?_)
    have e4 : hashByValue 8 (.int k tk) = pure true := rfl
    rw [e4, ite_self]
    refine wpAny_bind (wpAny_pure ?_)
    simp only [↓reduceIte]
    refine wpAny_bind (wpAny_storeSet_of ho hd ?_ (fits_of_scanBound b1))
    obtain ⟨g1, i1⟩ := IS.store (P := P) (w := w) ho hx hd el1 pm1 nd1 b1 e2 e3.1 (e3.2.trans hled)
    have sb1 := Heap.SameBut.update s.heap a (Obj.putSet es1 t1)
    split
    · have f1 := relayAll_perm t1 es1 (SetTable.grown es1.size)
      have f2 := relayAll_fits t1 es1 (SetTable.grown es1.size)
      have f3 := relayAll_rs (t := t1) es1 (SetTable.grown es1.size)
      generalize relayAll t1 es1 (SetTable.grown es1.size) = R at f1 f2 f3 ⊢
      obtain ⟨es2, t2, gave2⟩ := R
      dsimp only at f1 f2 f3 ⊢
      have sz : es2.size = es1.size := by rw [← Array.length_toList, f1.length_eq, Array.length_toList]
      refine wpAny_bind (way_on gave2 ?_)
      refine wpAny_bind (wpAny_storeSet_of g1 rfl ?_ (fits_of_scanBound (by omega)))
      obtain ⟨g2, i2⟩ := IS.store (P := P) (w := w) g1 hx rfl (el1.perm f1) ((f1.map _).trans pm1) nd1 (by omega) f2 f3.1 (f3.2.trans (e3.2.trans hled))
      exact wpAny_pure (wpAny_pure (h _ _ (sb1.trans (Heap.SameBut.update _ a _)) i2))
    · exact wpAny_pure (wpAny_pure (h _ _ sb1 i1))
theorem call_add {a : Addr} {l : List Int} {k : Int} {tk : Tok} {Q : Value → Shared → Prop} (hS : IS P w s.heap a l) (room : l.length + 1 < scanBound)
    (h : ∀ h', Heap.SameBut a s.heap h' → IS P w h' a (addL l k) → Q .none { s with heap := h', toks := s.toks + 1 }) : wpAny (model P w) A (call (.builtin "set.add") [.ref a, .int k tk]) Q E s := by
  refine wpAny_call_entry F.slot_set_add hS.type F.entry_set_add ?_ (F.args_set_add_2 _ _)
  unfold Builtin.«set.add» Builtin.Frozenset.oneOther
  simp only [List.isEmpty_nil, bind_assoc]
  unfold Builtin.Frozenset.addrOf setAdd
  refine wpAny_bind (wpAny_pure ?_)
  refine wpAny_bind (wpAny_pure ?_)
  refine wpAny_bind (wpAny_holding (wpAny_bind ((intKind P w).pyHash (k := k) (intKind_is _ _ _ _) ?_)))
  refine add_hashed (s := { s with toks := s.toks + 1 }) hS room fun h' b hs hS' => ?_
  show wpAny _ _ (ret Value.none) _ _ _
  exact wpAny_pure ⟨_, rfl, h h' hs hS'⟩
end
end Srt

set_option Elab.async false
set_option linter.all false
set_option maxRecDepth 100000
set_option maxHeartbeats 4000000
namespace Srt
open PySem PyProof.Rows PySem.Spec
/-- a new set's object -/
abbrev newS (w : World) : Obj := { cls := .type "set", dict := none, data := .set #[] 0 (.fresh 0 0 (!byT w)) }
section
variable {P : Program} {w : World} {A : Around} {E : Value → Shared → Prop} {s : Shared}
theorem IS.new {h : Heap} {a : Addr} (e : h.get? a = some (newS w)) : IS P w h a [] :=
  ⟨_, #[], 0, _, e, ⟨rfl, rfl, rfl⟩, rfl, fun e he => absurd he (by simp), List.Perm.refl _, List.nodup_nil, by decide, by rfl, List.Pairwise.nil, rfl⟩
theorem new0 {Q₁ : Value → Shared → Prop} (h : Q₁ (.ref s.heap.objs.size) { s with heap := s.heap.push (newS w) }) : codeAny (model P w) A (.call (.builtin "set.__new__") ⟨[.type "set"], []⟩) (wants Q₁ E) s := by
  refine codeAny_of_tree ?_
  show wpAny _ A.in1 (checkBuiltinCall "set.__new__" ⟨[.type "set"], []⟩ >>= fun _ => again (.builtin "set.__new__" ⟨[.type "set"], []⟩)) _ _ s
  refine wpAny_bind (wpAny_of_eq F.newCall_set_0 (wpAny_pure ⟨plainId_quiet F.plain_set_new _, codeAny_builtin F.entry_set_new ?k⟩))
  case k =>
    rw [Around.under_plainId F.plain_set_new _]
    have hsub := sub_set_self
    obtain ⟨hp, g, d, tk, os⟩ := s
    unfold Builtin.«set.__new__» Builtin.Frozenset.newClass
    dsimp only
    wp_walk
    refine wpAny_askSetting (wpAny_pure ?j)
    case j =>
      simp only [newObj]
      exact wpAny_bind (wpAny_alloc (wpAny_pure (wpAny_pure h)))
theorem new1 (a : Value) {Q₁ : Value → Shared → Prop} (h : Q₁ (.ref s.heap.objs.size) { s with heap := s.heap.push (newS w) }) : codeAny (model P w) A (.call (.builtin "set.__new__") ⟨[.type "set", a], []⟩) (wants Q₁ E) s := by
  refine codeAny_of_tree ?_
  show wpAny _ A.in1 (checkBuiltinCall "set.__new__" ⟨[.type "set", a], []⟩ >>= fun _ => again (.builtin "set.__new__" ⟨[.type "set", a], []⟩)) _ _ s
  refine wpAny_bind (wpAny_of_eq (F.newCall_set_1 a) (wpAny_pure ⟨plainId_quiet F.plain_set_new _, codeAny_builtin F.entry_set_new ?k⟩))
  case k =>
    rw [Around.under_plainId F.plain_set_new _]
    have hsub := sub_set_self
    obtain ⟨hp, g, d, tk, os⟩ := s
    unfold Builtin.«set.__new__» Builtin.Frozenset.newClass
    dsimp only
    wp_walk
    refine wpAny_askSetting (wpAny_pure ?j)
    case j =>
      simp only [newObj]
      exact wpAny_bind (wpAny_alloc (wpAny_pure (wpAny_pure h)))
/-- set() -/
theorem set0 {Q : Value → Shared → Prop} (h : Q (.ref s.heap.objs.size) { s with heap := s.heap.push (newS w) }) : wpAny (model P w) A (call (.type "set") []) Q E s := by
  obtain ⟨c, tl, hmro⟩ := F.called_set.mro
  have hmade := F.called_set.made
  have hsub := F.called_set.sub
  have h1 := F.called_set.notType
  have h2 := F.called_set.canCreate
  have hct := F.typeCall_set_0
  refine wpAny_call (codeAny_of_tree ?_)
  show wpAny _ _ (callAny (.type "set") _) _ _ _
  refine wpAny_pure ⟨Code.quiet_builtin _ (by decide +kernel), codeAny_builtin F.entry_type_call ?k⟩
  case k =>
    rw [Around.under_plain (weight_type_call_type "set" [] []) rfl]
    repeat (any_goals (first | assumption | wp_step))
    refine codeAny_mono (new0 (E := E) (Q₁ := fun v s₁ => v = .ref s.heap.objs.size ∧ s₁ = { s with heap := s.heap.push (newS w) }) ⟨rfl, rfl⟩) fun r s₁ hr => ?_
    rcases r with e | fl
    · exact hr
    · rcases fl with _ | _ | _ | v
      · exact hr.elim
      · exact hr.elim
      · exact hr.elim
      · obtain ⟨rfl, rfl⟩ := hr
        have hS : (s.heap.push (newS w)).get? s.heap.objs.size = some (newS w) := Heap.get?_push_size _ rfl
        have hT : Shared.TypeIs { s with heap := s.heap.push (newS w) } (.ref s.heap.objs.size) "set" := ⟨_, hS, rfl⟩
        have hli := F.called_set.init.lookup
        have hbi := F.called_set.init.bind (.ref s.heap.objs.size)
        repeat (any_goals (first | assumption | wp_step))
        refine codeAny_mono (codeAny_call_builtin (R := wants (fun r s₂ => r = .none ∧ Q (.ref s.heap.objs.size) s₂) E) F.called_set.init.plain F.entry_set_init (check_set_init hT ?goA)) fun r₂ s₂ hr₂ => ?goB
        case goA =>
          unfold Builtin.«set.__init__» noKeywords
          wp_walk
          exact ⟨rfl, h⟩
        case goB =>
          rcases r₂ with e | fl₂
          · exact hr₂
          · rcases fl₂ with _ | _ | _ | v
            · exact hr₂.elim
            · exact hr₂.elim
            · exact hr₂.elim
            · obtain ⟨rfl, hq⟩ := hr₂
              repeat (any_goals (first | assumption | wp_step))
end
end Srt

set_option Elab.async false
set_option linter.all false
set_option maxRecDepth 100000
set_option maxHeartbeats 4000000
namespace Srt
open PySem PyProof.Rows PySem.Spec
def ofL (ns : List Int) : List Int := ns.foldl addL []
theorem addL_len (l : List Int) (k : Int) : (addL l k).length ≤ l.length + 1 := by
  unfold addL
  split
  · omega
  · rw [List.length_append]
    exact Nat.le_refl _
theorem ofL_snoc (ns : List Int) (k : Int) : ofL (ns ++ [k]) = addL (ofL ns) k := by
  unfold ofL
  rw [List.foldl_append]
  rfl
theorem ofL_len : ∀ (ns : List Int), (ofL ns).length ≤ ns.length := by
  have go : ∀ (ns l : List Int), (ns.foldl addL l).length ≤ l.length + ns.length := by
    intro ns
    induction ns with
    | nil => intro l; exact Nat.le_refl _
    | cons a r ih =>
      intro l
      have h1 := ih (addL l a)
      have h2 := addL_len l a
      rw [List.foldl_cons, List.length_cons]
      omega
  intro ns
  have := go ns []
  rw [List.length_nil, Nat.zero_add] at this
  exact this
section
variable {P : Program} {w : World} {A : Around} {R : Result → Shared → Prop} {I : Addr} {fp wr : List Addr} {G : Array GenState → Array GenState → Prop} {n : Nat} {Pv : Nat → Value → Prop} {St : Nat → Shared → Prop}
theorem upd_loop (W : WalksS P w A.in1 I fp wr G n Pv St) (S : Addr) (hS : S ∉ fp) (ns : List Int) (hn : ns.length = n) (hv : ∀ i v, Pv i v → ∃ t, v = .int (ns.getD i 0) t) (hb : n + 1 < scanBound) :
    ∀ (k i : Nat) (s : Shared), n - i = k → i ≤ n → St i s → IS P w s.heap S (ofL (ns.take i)) → (∀ s', Moved (S :: wr) G s s' → IS P w s'.heap S (ofL ns) → R (.ok (.ret .none)) s') →
      codeAny (model P w) A (.builtin "set.update.loop" ⟨[.ref S, .ref I], []⟩) R s := by
  have hw : S ∉ wr := fun z => hS (W.sub _ z)
  have sub : ∀ b ∈ wr, b ∈ S :: wr := fun b z => List.mem_cons_of_mem _ z
  intro k
  induction k with
  | zero =>
    intro i s hk hi st is hR
    obtain rfl : i = n := by omega
    refine codeAny_builtin F.entry_set_update_loop ?_
    rw [Around.under_plainId F.plain_set_update_loop _]
    show wpAny _ A.in1 (pyNext (.ref I) >>= _) _ _ s
    refine wpAny_bind (W.done s _ _ st fun s' hm => ?_)
    show wpAny _ A.in1 (ret Value.none) _ _ s'
    refine wpAny_pure (hR s' (hm.mono sub) ?_)
    rw [List.take_of_length_le (by omega)] at is
    exact is.keep fun o e => hm.heap S o hw e
  | succ k ih =>
    intro i s hk hi st is hR
    have lt : i < n := by omega
    refine codeAny_builtin F.entry_set_update_loop ?_
    rw [Around.under_plainId F.plain_set_update_loop _]
    show wpAny _ A.in1 (pyNext (.ref I) >>= _) _ _ s
    refine wpAny_bind (W.item i s _ _ lt st fun v s' hP st' hm => ?_)
    obtain ⟨t, rfl⟩ := hv i v hP
    have is' := is.keep (h' := s'.heap) fun o e => hm.heap S o hw e
    show wpAny _ A.in1 (holding [Value.int (ns.getD i 0) t] (setAdd S (.int (ns.getD i 0) t)) >>= _) _ _ s'
    refine wpAny_bind (wpAny_holding ?_)
    unfold setAdd
    refine wpAny_holding (wpAny_bind ((intKind P w).pyHash (k := ns.getD i 0) (intKind_is _ _ _ _) ?_))
    have room : (ofL (ns.take i)).length + 1 < scanBound := by
      have h1 := ofL_len (ns.take i)
      rw [List.length_take] at h1
      omega
    refine add_hashed (s := { s' with toks := s'.toks + 1 }) is' room fun h' b hs is2 => ?_
    have e : addL (ofL (ns.take i)) (ns.getD i 0) = ofL (ns.take (i + 1)) := by
      have q : ns[i]? = some (ns.getD i 0) := by
        rw [List.getD_eq_getElem?_getD, List.getElem?_eq_getElem (by omega)]
        rfl
      rw [List.take_add_one, q, ← ofL_snoc]
      rfl
    rw [e] at is2
    refine wpAny_pure ⟨plainId_quiet F.plain_set_update_loop _, ih (i + 1) _ (by omega) lt (W.frame _ s' _ _ st' (Nat.le_succ _) fun b hb o q => ?_) is2 fun s'' hm'' is3 => ?_⟩
    · rw [hs.2 b fun z => hS (z ▸ hb)]
      exact q
    · refine hR s'' (Moved.trans W.gtrans ((hm.mono sub).then_heap (Nat.le_succ _) fun b o hb q => ?_) hm'') is3
      rw [hs.2 b fun z => hb (z ▸ List.mem_cons_self)]
      exact q
end
section
variable {P : Program} {w : World} {A : Around} {E : Value → Shared → Prop} {s : Shared}
/-- set(l), l a list of ints -/
theorem set1 {l : Addr} {vs : List Value} {ns : List Int} {Q : Value → Shared → Prop} (hh : A.handled = none) (hl : s.heap.IsList l vs.toArray) (hi : IntsAre vs ns) (hb : vs.length + 1 < scanBound)
    (h : ∀ (h' : Heap) (tk : Nat), IS P w h' s.heap.objs.size (ofL ns) → (∀ b o, b < s.heap.objs.size → s.heap.get? b = some o → h'.get? b = some o) → Q (.ref s.heap.objs.size) { s with heap := h', toks := tk }) :
    wpAny (model P w) A (call (.type "set") [.ref l]) Q E s := by
  obtain ⟨c, tl, hmro⟩ := F.called_set.mro
  have hmade := F.called_set.made
  have hsub := F.called_set.sub
  have h1 := F.called_set.notType
  have h2 := F.called_set.canCreate
  have hct := F.typeCall_set_1 (.ref l)
  refine wpAny_call (codeAny_of_tree ?_)
  show wpAny _ _ (callAny (.type "set") _) _ _ _
  refine wpAny_pure ⟨Code.quiet_builtin _ (by decide +kernel), codeAny_builtin F.entry_type_call ?k⟩
  case k =>
    rw [Around.under_plain (weight_type_call_type "set" [.ref l] []) rfl]
    repeat (any_goals (first | assumption | wp_step))
    refine codeAny_mono (new1 (.ref l) (E := E) (Q₁ := fun v s₁ => v = .ref s.heap.objs.size ∧ s₁ = { s with heap := s.heap.push (newS w) }) ⟨rfl, rfl⟩) fun r s₁ hr => ?_
    rcases r with e | fl
    · exact hr
    · rcases fl with _ | _ | _ | v
      · exact hr.elim
      · exact hr.elim
      · exact hr.elim
      · obtain ⟨rfl, rfl⟩ := hr
        have hS : (s.heap.push (newS w)).get? s.heap.objs.size = some (newS w) := Heap.get?_push_size _ rfl
        have hT : Shared.TypeIs { s with heap := s.heap.push (newS w) } (.ref s.heap.objs.size) "set" := ⟨_, hS, rfl⟩
        have hli := F.called_set.init.lookup
        have hbi := F.called_set.init.bind (.ref s.heap.objs.size)
        repeat (any_goals (first | assumption | wp_step))
        refine codeAny_mono (codeAny_call_builtin (R := wants (fun r s₂ => r = .none ∧ ∃ h' tk, s₂ = { s with heap := h', toks := tk } ∧ IS P w h' s.heap.objs.size (ofL ns) ∧ ∀ b o, b < s.heap.objs.size → s.heap.get? b = some o → h'.get? b = some o) E) F.called_set.init.plain F.entry_set_init (check_set_init_1 hT ?goA)) fun r₂ s₂ hr₂ => ?goB
        case goA =>
          obtain ⟨ol, hol, hcl, nl, hdl⟩ := hl
          obtain ⟨ocls, odict, odata, oslots⟩ := ol
          simp only at hcl hdl
          subst hcl hdl
          have hol' : (s.heap.push (newS w)).get? l = some { cls := .type "list", dict := odict, data := .seq vs.toArray nl, slots := oslots } := Heap.get?_push_of_some _ hol
          have hsls := F.sub_list_set
          have hslf := F.sub_list_frozenset
          have hne : (Value.type "list" == Value.type "dict") = false := by decide
          have hl1 : (s.heap.push (newS w)).IsList l vs.toArray := ⟨_, hol', rfl, nl, rfl⟩
          unfold Builtin.«set.__init__» noKeywords Builtin.Frozenset.updateFrom
          generalize hPI : pyIter = PI
          wp_walk
          subst hPI
          refine wpAny_pyIter_list hl1 ?_
          refine wpAny_bind (wpAny_runValue ?_)
          have lS : l < s.heap.objs.size := Heap.lt_size hol
          have hh3 : A.in1.in1.in1.handled = none := by simp [hh]
          have nI : l ≠ (s.heap.push (newS w)).objs.size := by
            rw [Heap.size_push]
            exact Nat.ne_of_lt (Nat.lt_succ_of_lt lS)
          have nS : s.heap.objs.size ∉ [(s.heap.push (newS w)).objs.size, l] := by
            rw [Heap.size_push]
            simp only [List.mem_cons, List.not_mem_nil, or_false, not_or]
            exact And.intro (Nat.ne_of_lt (Nat.lt_succ_self _)) (Nat.ne_of_gt lS)
          have hv : ∀ (i : Nat) (v : Value), vs.toArray[i]? = some v → ∃ t, v = .int (ns.getD i 0) t := fun i v e => IntsAre.int_at hi i v (by simpa using e)
          refine upd_loop ((Walks.list hh3 _ l nI vs.toArray).toS) s.heap.objs.size nS ns (by rw [← IntsAre.length hi]; simp) hv (by simpa using hb) (vs.toArray.size - 0) 0 _ rfl (Nat.zero_le _) ⟨⟨_, Heap.get?_push_size _ rfl, rfl, rfl⟩, hl1.push _⟩ ?isA ?rA
          case isA => exact IS.new (Heap.get?_push_of_some _ hS)
          case rA =>
            intro s' hm is'
            obtain ⟨h', g', d', tk', os'⟩ := s'
            obtain rfl : g' = s.gens := hm.gens
            obtain rfl : d' = s.drawn := hm.drawn
            obtain rfl : os' = s.os := hm.os
            show wpAny _ _ _ _ _ _
            refine wpAny_pure ?_
            show wpAny _ _ (ret Value.none) _ _ _
            refine wpAny_pure ⟨rfl, h', tk', rfl, is', fun b o hb e => ?_⟩
            refine hm.heap b o ?_ (Heap.get?_push_of_some _ (Heap.get?_push_of_some _ e))
            rw [Heap.size_push]
            simp only [List.mem_cons, List.not_mem_nil, or_false, not_or]
            exact And.intro (Nat.ne_of_lt hb) (Nat.ne_of_lt (Nat.lt_succ_of_lt hb))
        case goB =>
          rcases r₂ with e | fl₂
          · exact hr₂
          · rcases fl₂ with _ | _ | _ | v
            · exact hr₂.elim
            · exact hr₂.elim
            · exact hr₂.elim
            · obtain ⟨rfl, h', tk, rfl, is', k'⟩ := hr₂
              repeat (any_goals (first | assumption | wp_step))
              exact h _ _ is' k'
end
end Srt

set_option Elab.async false
set_option linter.all false
set_option maxRecDepth 100000
set_option maxHeartbeats 4000000
namespace Srt
open PySem PyProof.Rows PySem.Spec
theorem sl_next : Slot "set_iterator" "__next__" "set_iterator.__next__" := by
  refine .of (owner := "set_iterator") (n := "__next__") ?_ ?_ ?_ ?_ ?_ ?_
  · rw [typeLookup_type, builtinLookup_eq_fast]
    kernel_rfl
  · decide +kernel
  · decide +kernel
  · decide +kernel
  · first | exact .inl (by decide +kernel) | exact .inr (by decide +kernel)
  · rw [isSubtype_type]
    kernel_rfl
theorem sl_self : Slot "set_iterator" "__iter__" "set_iterator.__iter__" := by
  refine .of (owner := "set_iterator") (n := "__iter__") ?_ ?_ ?_ ?_ ?_ ?_
  · rw [typeLookup_type, builtinLookup_eq_fast]
    kernel_rfl
  · decide +kernel
  · decide +kernel
  · decide +kernel
  · first | exact .inl (by decide +kernel) | exact .inr (by decide +kernel)
  · rw [isSubtype_type]
    kernel_rfl
theorem en_next : entryFor table "set_iterator.__next__" = some Builtin.«set_iterator.__next__» := entryFor_of_tree (by kernel_rfl)
theorem en_iter : entryFor table "set.__iter__" = some Builtin.«frozenset.__iter__» := entryFor_alias (id' := "frozenset.__iter__") (by kernel_rfl) rfl (by decide +kernel) (by kernel_rfl)
theorem en_self : entryFor table "set_iterator.__iter__" = some Builtin.«dict_keyiterator.__iter__» := entryFor_alias (id' := "dict_keyiterator.__iter__") (by kernel_rfl) rfl (by decide +kernel) (by kernel_rfl)
theorem ar_next (a : Value) : argsOk "set_iterator.__next__" ⟨[a], []⟩ := by
  unfold argsOk
  kernel_rfl
theorem ar_self (a : Value) : argsOk "set_iterator.__iter__" ⟨[a], []⟩ := by
  unfold argsOk
  kernel_rfl
end Srt

set_option Elab.async false
set_option linter.all false
set_option maxRecDepth 100000
set_option maxHeartbeats 4000000
namespace Srt
open PySem PyProof.Rows PySem.Spec
/-- the set as it stands while it is walked -/
def SA (h : Heap) (a : Addr) (es : Array (Int × Value)) (ep : Nat) (t : SetTable) : Prop := ∃ o, h.get? a = some o ∧ o.ExactSet ∧ o.data = .set es ep t ∧ t.fits es.size = true
/-- its iterator -/
def SI (h : Heap) (it : Addr) (first : Value) (i : Nat) (a : Addr) (n ep : Nat) : Prop := h.get? it = some { cls := .type "set_iterator", data := .fields #[first, .int i 0, .ref a, .int n 0, .int ep 0] }
section
variable {P : Program} {w : World} {A : Around} {E : Value → Shared → Prop} {s : Shared}
theorem by_text {Q : Bool → Shared → Prop} (h : Q (byT w) s) : wpAny (model P w) A setsByText Q E s := by
  unfold setsByText
  exact wpAny_bind (wpAny_askSetting (wpAny_pure h))
theorem SI.type {it a : Addr} {first : Value} {i n ep : Nat} (x : SI s.heap it first i a n ep) : s.TypeIs (.ref it) "set_iterator" := ⟨_, x, rfl⟩
theorem SI.set {it a : Addr} {f f' : Value} {i n ep : Nat} {h : Heap} (x : SI h it f i a n ep) : SI ((h.update it (Obj.mapFields (·.setIfInBounds 0 f'))).update it (Obj.mapFields (·.setIfInBounds 1 (rawInt ((i : Int) + 1))))) it f' (i + 1) a n ep := by
  have g1 : (h.update it (Obj.mapFields (·.setIfInBounds 0 f'))).get? it = some { cls := .type "set_iterator", data := .fields #[f', .int i 0, .ref a, .int n 0, .int ep 0] } := Heap.get?_update_self _ x rfl
  exact Heap.get?_update_self _ g1 rfl
theorem SI.set1 {it a : Addr} {f : Value} {i n ep : Nat} {h : Heap} (x : SI h it f i a n ep) : SI (h.update it (Obj.mapFields (·.setIfInBounds 1 (rawInt ((i : Int) + 1))))) it f (i + 1) a n ep := Heap.get?_update_self _ x rfl
/-- the next one, told by setNext -/
theorem next_some {it a : Addr} {i slot ep nx : Nat} {x : Value} {es : Array (Int × Value)} {t : SetTable} {Q : Option Value → Shared → Prop} (hit : SI s.heap it (.int slot 0) i a es.size ep) (hs : SA s.heap a es ep t)
    (hn : ∀ (Q' : Option (Value × Nat) → Shared → Prop) E', Q' (some (x, nx)) s → wpAny (model P w) A.in1 (setNext a slot i ep) Q' E' s)
    (q : ∀ h', SI h' it (.int nx 0) (i + 1) a es.size ep → Heap.SameBut it s.heap h' → Q (some x) { s with heap := h' }) : wpAny (model P w) A (pyNext (.ref it)) Q E s := by
  obtain ⟨o, ho, hx, hdat, hf⟩ := hs
  unfold pyNext
  refine wpAny_bind (wpAny_attempt (wpAny_callSpecial?_slot (name := Str.ofString "__next__") hit.type sl_next (wpAny_call_entry sl_next hit.type en_next ?_ (ar_next _))))
  unfold Builtin.«set_iterator.__next__»
  refine wpAny_bind (wpAny_pure (wpAny_bind (wpAny_fieldsOf hit rfl ?_)))
  dsimp only
  refine wpAny_bind (wpAny_setEntries_of ho hdat hf ?_)
  rw [if_neg (by simp)]
  refine wpAny_bind (hn _ _ ?_)
  dsimp only
  refine wpAny_bind (wpAny_setField hit rfl (by simp) ?_)
  have g1 : (s.heap.update it (Obj.mapFields (·.setIfInBounds 0 (rawInt nx)))).get? it = some { cls := .type "set_iterator", data := .fields #[.int nx 0, .int i 0, .ref a, .int es.size 0, .int ep 0] } := Heap.get?_update_self _ hit rfl
  refine wpAny_bind (wpAny_setField g1 rfl (by simp) ?_)
  exact wpAny_pure ⟨_, rfl, wpAny_pure (q _ hit.set ((Heap.SameBut.update ..).trans (Heap.SameBut.update ..)))⟩
/-- the end -/
theorem next_none {it a : Addr} {i slot ep : Nat} {es : Array (Int × Value)} {t : SetTable} {Q : Option Value → Shared → Prop} (hh : A.handled = none) (hit : SI s.heap it (.int slot 0) i a es.size ep) (hs : SA s.heap a es ep t)
    (hn : ∀ (Q' : Option (Value × Nat) → Shared → Prop) E', Q' none s → wpAny (model P w) A.in1 (setNext a slot i ep) Q' E' s)
    (q : ∀ h', Heap.ExtBut it s.heap h' → Q none { s with heap := h' }) : wpAny (model P w) A (pyNext (.ref it)) Q E s := by
  obtain ⟨o, ho, hx, hdat, hf⟩ := hs
  unfold pyNext
  refine wpAny_bind (wpAny_attempt (wpAny_callSpecial?_slot (name := Str.ofString "__next__") hit.type sl_next (wpAny_call_entry sl_next hit.type en_next ?_ (ar_next _))))
  unfold Builtin.«set_iterator.__next__»
  refine wpAny_bind (wpAny_pure (wpAny_bind (wpAny_fieldsOf hit rfl ?_)))
  dsimp only
  refine wpAny_bind (wpAny_setEntries_of ho hdat hf ?_)
  rw [if_neg (by simp)]
  refine wpAny_bind (hn _ _ ?_)
  dsimp only
  refine wpAny_bind (wpAny_setField hit rfl (by simp) ?_)
  refine wpAny_bind ?_
  simp only [newExc, newTuple]
  refine wpAny_bind (wpAny_newObj_type ?_ (by size_fits))
  refine wpAny_bind (m := firstArgMember _ _) (wpAny_of_eq (a := Value.none) rfl ?_)
  refine wpAny_newObj_type ?_ (by size_fits)
  simp only [raiseNew]
  refine wpAny_bind (wpAny_handled ?_)
  rw [(show A.in1.handled = none from hh)]
  refine wpAny_bind (wpAny_pure (wpAny_throw ?_))
  refine wpAny_bind (wpAny_isInstance (T := "StopIteration") (b := true) ⟨_, Heap.get?_push_size _ rfl, rfl⟩ isSubtype_stop ?_)
  exact wpAny_pure (q _ (((Heap.SameBut.update ..).extBut.push _).push _))
/-- the next one of a drawn order -/
theorem next_drawn {it a tp : Addr} {i ep : Nat} {es : Array (Int × Value)} {t : SetTable} {ps : List Nat} {p : Nat} {e : Int × Value} {Q : Option Value → Shared → Prop} (hit : SI s.heap it (.ref tp) i a es.size ep) (hs : SA s.heap a es ep t)
    (ht : s.heap.get? tp = some { cls := .type "tuple", data := .seq (ps.map fun (k : Nat) => Value.int k 0).toArray 0 }) (hp : ps[i]? = some p) (he : es[p]? = some e)
    (q : ∀ h', SI h' it (.ref tp) (i + 1) a es.size ep → Heap.SameBut it s.heap h' → Q (some e.2) { s with heap := h' }) : wpAny (model P w) A (pyNext (.ref it)) Q E s := by
  obtain ⟨o, ho, hx, hdat, hf⟩ := hs
  unfold pyNext
  refine wpAny_bind (wpAny_attempt (wpAny_callSpecial?_slot (name := Str.ofString "__next__") hit.type sl_next (wpAny_call_entry sl_next hit.type en_next ?_ (ar_next _))))
  unfold Builtin.«set_iterator.__next__»
  refine wpAny_bind (wpAny_pure (wpAny_bind (wpAny_fieldsOf hit rfl ?_)))
  dsimp only
  refine wpAny_bind (wpAny_setEntries_of ho hdat hf ?_)
  rw [if_neg (by simp)]
  refine wpAny_bind (wpAny_seqItems ht rfl ?_)
  have e1 : (ps.map fun (k : Nat) => Value.int k 0).toArray[(i : Int).toNat]? = some (.int p 0) := by
    rw [Int.toNat_natCast, List.getElem?_toArray, List.getElem?_map, hp]
    rfl
  dsimp only
  rw [e1]
  dsimp only
  rw [Int.toNat_natCast, Int.toNat_natCast]
  unfold setNextDrawn
  refine wpAny_bind (wpAny_bind (wpAny_setState_of ho hdat hf ?_))
  dsimp only
  rw [if_neg (by simp), he]
  refine wpAny_pure ?_
  refine wpAny_bind (wpAny_setField hit rfl (by simp) ?_)
  exact wpAny_pure ⟨_, rfl, wpAny_pure (q _ hit.set1 (Heap.SameBut.update ..))⟩
theorem next_drawn_end {it a tp : Addr} {i ep : Nat} {es : Array (Int × Value)} {t : SetTable} {ps : List Nat} {Q : Option Value → Shared → Prop} (hh : A.handled = none) (hit : SI s.heap it (.ref tp) i a es.size ep) (hs : SA s.heap a es ep t)
    (ht : s.heap.get? tp = some { cls := .type "tuple", data := .seq (ps.map fun (k : Nat) => Value.int k 0).toArray 0 }) (hp : ps[i]? = none)
    (q : ∀ h', Heap.ExtBut it s.heap h' → Q none { s with heap := h' }) : wpAny (model P w) A (pyNext (.ref it)) Q E s := by
  obtain ⟨o, ho, hx, hdat, hf⟩ := hs
  unfold pyNext
  refine wpAny_bind (wpAny_attempt (wpAny_callSpecial?_slot (name := Str.ofString "__next__") hit.type sl_next (wpAny_call_entry sl_next hit.type en_next ?_ (ar_next _))))
  unfold Builtin.«set_iterator.__next__»
  refine wpAny_bind (wpAny_pure (wpAny_bind (wpAny_fieldsOf hit rfl ?_)))
  dsimp only
  refine wpAny_bind (wpAny_setEntries_of ho hdat hf ?_)
  rw [if_neg (by simp)]
  refine wpAny_bind (wpAny_seqItems ht rfl ?_)
  have e1 : (ps.map fun (k : Nat) => Value.int k 0).toArray[(i : Int).toNat]? = none := by
    rw [Int.toNat_natCast, List.getElem?_toArray, List.getElem?_map, hp]
    rfl
  dsimp only
  rw [e1]
  dsimp only
  refine wpAny_bind (wpAny_setField hit rfl (by simp) ?_)
  have g1 : (s.heap.update it (Obj.mapFields (·.setIfInBounds 0 (rawInt 0)))).get? it = some { cls := .type "set_iterator", data := .fields #[.int 0 0, .int i 0, .ref a, .int es.size 0, .int ep 0] } := Heap.get?_update_self _ hit rfl
  refine wpAny_bind (wpAny_setField g1 rfl (by simp) ?_)
  refine wpAny_bind ?_
  simp only [newExc, newTuple]
  refine wpAny_bind (wpAny_newObj_type ?_ (by size_fits))
  refine wpAny_bind (m := firstArgMember _ _) (wpAny_of_eq (a := Value.none) rfl ?_)
  refine wpAny_newObj_type ?_ (by size_fits)
  simp only [raiseNew]
  refine wpAny_bind (wpAny_handled ?_)
  rw [(show A.in1.handled = none from hh)]
  refine wpAny_bind (wpAny_pure (wpAny_throw ?_))
  refine wpAny_bind (wpAny_isInstance (T := "StopIteration") (b := true) ⟨_, Heap.get?_push_size _ rfl, rfl⟩ isSubtype_stop ?_)
  exact wpAny_pure (q _ ((((Heap.SameBut.update ..).trans (Heap.SameBut.update ..)).extBut.push _).push _))
/-- setNext, by the table's places -/
theorem set_next {a : Addr} {i slot ep : Nat} {es : Array (Int × Value)} {t : SetTable} {Q : Option (Value × Nat) → Shared → Prop} (hs : SA s.heap a es ep t) (hb : byT w = false) (hd : (!t.plain && decide (es.size > 1)) = false) (hl : t.led = true)
    (q : Q (match es[SetTable.below t.place slot]?, t.place[SetTable.below t.place slot]? with | some (_, x), some j => some (x, j + 1) | _, _ => none) s) : wpAny (model P w) A (setNext a slot i ep) Q E s := by
  obtain ⟨o, ho, hx, hdat, hf⟩ := hs
  unfold setNext
  refine wpAny_bind (wpAny_setState_of ho hdat hf ?_)
  dsimp only
  refine wpAny_bind (by_text ?_)
  rw [hb, if_neg Bool.false_ne_true]
  split
  · next z =>
    have z : (!t.plain && decide (es.size > 1)) = true := z
    rw [hd] at z
    cases z
  · refine wpAny_bind ?_
    show wpAny (model P w) A (if (!t.led && !es.isEmpty) = true then unsupported "set:maker-not-led" else pure PUnit.unit) _ _ _
    rw [hl, if_neg (by simp)]
    exact wpAny_pure (wpAny_pure q)
/-- setNext, by the world's text -/
theorem set_next_text {a : Addr} {i slot ep : Nat} {es : Array (Int × Value)} {t : SetTable} {Q : Option (Value × Nat) → Shared → Prop} (hs : SA s.heap a es ep t) (hb : byT w = true)
    (q : Q (((pickOrder (w.params.setOrder a ep) es)[i]?).map fun e => (e.2, slot)) s) : wpAny (model P w) A (setNext a slot i ep) Q E s := by
  obtain ⟨o, ho, hx, hdat, hf⟩ := hs
  unfold setNext
  refine wpAny_bind (wpAny_setState_of ho hdat hf ?_)
  dsimp only
  refine wpAny_bind (by_text ?_)
  rw [hb, if_pos rfl, if_neg (by simp)]
  unfold setWalk
  refine wpAny_bind (wpAny_bind (wpAny_setState_of ho hdat hf ?_))
  dsimp only
  refine wpAny_bind (by_text ?_)
  rw [hb, if_pos rfl]
  refine wpAny_bind (wpAny_askSetting (wpAny_pure (wpAny_pure q)))
end
/-! ### the three walks -/
section
variable {P : Program} {w : World} {A : Around}
theorem SI.at {h h' : Heap} {it a : Addr} {f : Value} {i n ep : Nat} (x : SI h it f i a n ep) (k : ∀ o, h.get? it = some o → h'.get? it = some o) : SI h' it f i a n ep := k _ x
theorem SA.at {h h' : Heap} {a : Addr} {es : Array (Int × Value)} {ep : Nat} {t : SetTable} (x : SA h a es ep t) (k : ∀ o, h.get? a = some o → h'.get? a = some o) : SA h' a es ep t := by
  obtain ⟨o, ho, r⟩ := x
  exact ⟨o, k o ho, r⟩
theorem self_iter {it a : Addr} {f : Value} {i n ep : Nat} {s : Shared} {Q : Value → Shared → Prop} {E : Value → Shared → Prop} (hit : SI s.heap it f i a n ep) (h : Q (.ref it) s) : wpAny (model P w) A (pyIter (.ref it)) Q E s := by
  refine wpAny_pyIter_slot hit.type sl_self (wpAny_call_entry sl_self hit.type en_self ?_ (ar_self _))
  show wpAny _ _ (ret (.ref it)) _ _ s
  exact wpAny_pure ⟨_, rfl, "set_iterator", _, hit.type, sl_next.lookup, h⟩
/-- the places of the table as they are met -/
def at0 (t : SetTable) (i : Nat) : Nat := if i = 0 then 0 else t.place.getD (i - 1) 0 + 1
theorem at0_below {t : SetTable} (hr : Rs t.place) {i : Nat} (hi : i ≤ t.place.size) : SetTable.below t.place (at0 t i) = i := by
  unfold at0
  by_cases e : i = 0
  · subst e
    rw [if_pos rfl]
    exact below_eq hr (Nat.zero_le _) (fun i q r => absurd r (by omega)) fun i q r => Nat.zero_le _
  · rw [if_neg e]
    have g : t.place.getD (i - 1) 0 = t.place[i - 1] := by rw [Array.getD_eq_getD_getElem?, getElem?_pos t.place _ (by omega)]; rfl
    rw [g]
    refine below_eq hr hi (fun k q r => ?_) fun k q r => ?_
    · exact Nat.lt_succ_of_le (hr.le (by omega) (by omega))
    · exact hr.lt (by omega) q
theorem walk_plain (hh : A.handled = none) (it a : Addr) (hne : a ≠ it) (es : Array (Int × Value)) (ep : Nat) (t : SetTable) (hb : byT w = false) (hd : (!t.plain && decide (es.size > 1)) = false) (hl : t.led = true) (hr : Rs t.place) (hz : t.place.size = es.size) :
    Walks P w A it [it, a] [it] es.size (fun i v => (es.toList.map (·.2))[i]? = some v) (fun i h => SI h it (.int (at0 t i : Nat) 0) i a es.size ep ∧ SA h a es ep t) where
  sub := fun b h => by simp at h; simp [h]
  frame := fun _ _ _ st hk => ⟨st.1.at fun o e => hk it (by simp) o e, st.2.at fun o e => hk a (by simp) o e⟩
  item := fun i s Q E hi st q => by
    have hj : t.place[i]? = some t.place[i] := getElem?_pos _ _ (by omega)
    have he : es[i]? = some es[i] := getElem?_pos es i hi
    refine next_some (x := es[i].2) (nx := t.place[i] + 1) st.1 st.2 (fun Q' E' q' => set_next st.2 hb hd hl ?_) fun h' si sb => ?_
    · rw [at0_below hr (by omega), hj, he]
      exact q'
    · have e1 : at0 t (i + 1) = t.place[i] + 1 := by
        unfold at0
        rw [if_neg (by omega), Nat.add_sub_cancel, Array.getD_eq_getD_getElem?, hj]
        rfl
      refine q _ h' s.toks (by rw [List.getElem?_map, Array.getElem?_toList, he]; rfl) ⟨by rw [e1]; exact si, st.2.at fun o e => sb.extBut a o hne e⟩ fun b o hb' e => sb.extBut b o (fun z => hb' (by simp [z])) e
  done := fun s Q E st q => by
    refine next_none hh st.1 st.2 (fun Q' E' q' => set_next st.2 hb hd hl ?_) fun h' he => q h' s.toks fun b o hb' e => he b o (fun z => hb' (by simp [z])) e
    rw [at0_below hr (by omega), getElem?_neg es _ (by omega)]
    exact q'
  self := fun _ _ _ _ st q => self_iter st.1 q
theorem walk_text (hh : A.handled = none) (it a : Addr) (hne : a ≠ it) (es : Array (Int × Value)) (ep : Nat) (t : SetTable) (hb : byT w = true) :
    Walks P w A it [it, a] [it] es.size (fun i v => ((pickOrder (w.params.setOrder a ep) es).toList.map (·.2))[i]? = some v) (fun i h => SI h it (.int (0 : Nat) 0) i a es.size ep ∧ SA h a es ep t) where
  sub := fun b h => by simp at h; simp [h]
  frame := fun _ _ _ st hk => ⟨st.1.at fun o e => hk it (by simp) o e, st.2.at fun o e => hk a (by simp) o e⟩
  item := fun i s Q E hi st q => by
    have sz : (pickOrder (w.params.setOrder a ep) es).size = es.size := by
      have z := (pick_perm (w.params.setOrder a ep) es).length_eq
      simpa using z
    have he : (pickOrder (w.params.setOrder a ep) es)[i]? = some (pickOrder (w.params.setOrder a ep) es)[i] := getElem?_pos _ _ (by omega)
    refine next_some (x := (pickOrder (w.params.setOrder a ep) es)[i].2) (nx := 0) st.1 st.2 (fun Q' E' q' => set_next_text st.2 hb ?_) fun h' si sb => ?_
    · rw [he]
      exact q'
    · refine q _ h' s.toks (by rw [List.getElem?_map, Array.getElem?_toList, he]; rfl) ⟨si, st.2.at fun o e => sb.extBut a o hne e⟩ fun b o hb' e => sb.extBut b o (fun z => hb' (by simp [z])) e
  done := fun s Q E st q => by
    have sz : (pickOrder (w.params.setOrder a ep) es).size = es.size := by
      have z := (pick_perm (w.params.setOrder a ep) es).length_eq
      simpa using z
    refine next_none hh st.1 st.2 (fun Q' E' q' => set_next_text st.2 hb ?_) fun h' he => q h' s.toks fun b o hb' e => he b o (fun z => hb' (by simp [z])) e
    rw [getElem?_neg _ _ (by omega)]
    exact q'
  self := fun _ _ _ _ st q => self_iter st.1 q
theorem walk_drawn (hh : A.handled = none) (it a tp : Addr) (hne : a ≠ it) (hne2 : tp ≠ it) (es : Array (Int × Value)) (ep : Nat) (t : SetTable) (ps : List Nat) (hps : ps.Perm (List.range es.size)) :
    Walks P w A it [it, a, tp] [it] es.size (fun i v => (ps.map fun p => (es.getD p (0, .none)).2)[i]? = some v)
      (fun i h => SI h it (.ref tp) i a es.size ep ∧ SA h a es ep t ∧ h.get? tp = some { cls := .type "tuple", data := .seq (ps.map fun (k : Nat) => Value.int k 0).toArray 0 }) where
  sub := fun b h => by simp at h; simp [h]
  frame := fun _ _ _ st hk => ⟨st.1.at fun o e => hk it (by simp) o e, st.2.1.at fun o e => hk a (by simp) o e, hk tp (by simp) _ st.2.2⟩
  item := fun i s Q E hi st q => by
    have lp : ps.length = es.size := by rw [hps.length_eq, List.length_range]
    have hp : ps[i]? = some ps[i] := getElem?_pos _ _ (by omega)
    have lt : ps[i] < es.size := List.mem_range.mp (hps.mem_iff.mp (List.getElem_mem ..))
    have he : es[ps[i]]? = some es[ps[i]] := getElem?_pos es ps[i] lt
    refine next_drawn st.1 st.2.1 st.2.2 hp he fun h' si sb => ?_
    refine q _ h' s.toks ?_ ⟨si, st.2.1.at fun o e => sb.extBut a o hne e, sb.extBut tp _ hne2 st.2.2⟩ fun b o hb' e => sb.extBut b o (fun z => hb' (by simp [z])) e
    rw [List.getElem?_map, hp, Option.map_some, Array.getD_eq_getD_getElem?, he]
    rfl
  done := fun s Q E st q => by
    have lp : ps.length = es.size := by rw [hps.length_eq, List.length_range]
    refine next_drawn_end hh st.1 st.2.1 st.2.2 (getElem?_neg _ _ (by omega)) fun h' he => q h' s.toks fun b o hb' e => he b o (fun z => hb' (by simp [z])) e
  self := fun _ _ _ _ st q => self_iter st.1 q
end
end Srt

set_option Elab.async false
set_option linter.all false
set_option maxRecDepth 100000
set_option maxHeartbeats 4000000
namespace Srt
open PySem PyProof.Rows PySem.Spec
theorem ints_of {P : Program} {w : World} : ∀ {l : List (Int × Value)}, ElemsOf (intKind P w) l → IntsAre (l.map (·.2)) (l.map fun e => numOf e.2)
  | [], _ => .nil
  | e :: r, h => by
    obtain ⟨⟨k, hk, _⟩, _⟩ := h.head
    obtain ⟨t, e'⟩ := Value.isInt_shape hk
    have q := ints_of h.tail
    rw [List.map_cons, List.map_cons, e']
    exact .cons k t q
theorem map_range (es : Array (Int × Value)) : ((List.range es.size).map fun p => (es.getD p (0, .none)).2) = es.toList.map (·.2) := by
  refine List.ext_getElem? fun i => ?_
  rw [List.getElem?_map, List.getElem?_map]
  have e : es.toList[i]? = es[i]? := Array.getElem?_toList
  rw [e]
  by_cases hi : i < es.size
  · rw [List.getElem?_range hi, getElem?_pos es i hi, Option.map_some, Option.map_some, Array.getD_eq_getD_getElem?, getElem?_pos es i hi]
    rfl
  · rw [getElem?_neg es i hi, List.getElem?_eq_none (by simpa using hi)]
    rfl
section
variable {P : Program} {w : World} {A : Around} {E : Value → Shared → Prop} {s : Shared}
theorem iter_set {a : Addr} {l : List Int} {Q : Value → Shared → Prop} (hS : IS P w s.heap a l)
    (q : ∀ (it : Addr) (h' : Heap) (d : Drawn) (fp : List Addr) (seq : List Value) (ns : List Int) (St : Nat → Heap → Prop), (∀ A' : Around, A'.handled = none → Walks P w A' it fp [it] seq.length (fun i v => seq[i]? = some v) St) → St 0 h' → IntsAre seq ns → ns.Perm l →
      s.heap.objs.size ≤ it → (∀ b ∈ fp, b = a ∨ s.heap.objs.size ≤ b) → (∀ b o, s.heap.get? b = some o → h'.get? b = some o) → Q (.ref it) { s with heap := h', drawn := d }) : wpAny (model P w) A (pyIter (.ref a)) Q E s := by
  have hT := hS.type
  obtain ⟨o, es, ep, t, ho, hx, hdat, hel, hpm, hnd, hb, hf, hr, hled⟩ := hS
  have hz : t.place.size = es.size := by
    unfold SetTable.fits at hf
    rw [Bool.and_eq_true] at hf
    exact beq_iff_eq.mp hf.1
  have alt : a < s.heap.objs.size := Heap.lt_size ho
  refine wpAny_pyIter_slot hT F.slot_set_iter (wpAny_call_entry F.slot_set_iter hT en_iter ?_ (F.args_set_iter_1 _))
  unfold Builtin.«frozenset.__iter__»
  refine wpAny_bind (wpAny_pure ?_)
  unfold Builtin.Frozenset.sizeOf
  refine wpAny_bind (wpAny_bind (wpAny_setEntries_of ho hdat hf (wpAny_pure ?_)))
  unfold setDrawn
  refine wpAny_bind (wpAny_bind (wpAny_setState_of ho hdat hf ?_))
  dsimp only
  refine wpAny_bind (by_text (wpAny_pure ?_))
  have em : (es.toList.map fun e => numOf e.2) = (es.toList.map (·.2)).map numOf := by
    rw [List.map_map]
    rfl
  have lt1 : ∀ o', (s.heap.push o').objs.size = s.heap.objs.size + 1 := fun o' => Heap.size_push _ _
  split
  · refine wpAny_bind (draw_perm es.size (List.range es.size) s _ (by simp) fun ps d hps => ?_)
    have lp : ps.length = es.size := by rw [hps.length_eq, List.length_range]
    refine wpAny_bind (wpAny_newTuple ?_ (by rw [List.length_map, lp]; exact fits_of_scanBound hb))
    refine wpAny_bind (wpAny_setEpoch_of (Heap.get?_push_of_some _ ho) hdat hf ?_)
    refine wpAny_bind (wpAny_newObj_type (wpAny_pure ⟨_, rfl, "set_iterator", _, ⟨_, Heap.get?_push_size _ rfl, rfl⟩, sl_next.lookup, ?_⟩))
    have sl : (ps.map fun p => (es.getD p (0, .none)).2).length = es.size := by rw [List.length_map, lp]
    have e1 := map_range es
    have pm := hps.map fun p => (es.getD p (0, .none)).2
    rw [e1] at pm
    have hI : ∀ v ∈ ps.map (fun p => (es.getD p (0, .none)).2), ∃ n t, v = .int n t := fun v hv => (ints_of hel).all v (pm.mem_iff.mp hv)
    show Q (.ref (s.heap.push { cls := .type "tuple", data := .seq (ps.map fun (k : Nat) => Value.int k 0).toArray 0 }).objs.size) { s with heap := _, drawn := d }
    rw [lt1]
    refine q _ _ d [s.heap.objs.size + 1, a, s.heap.objs.size] (ps.map fun p => (es.getD p (0, .none)).2) _ (fun i h => SI h (s.heap.objs.size + 1) (.ref s.heap.objs.size) i a es.size ep ∧ SA h a es ep t ∧ h.get? s.heap.objs.size = some { cls := .type "tuple", data := .seq (ps.map fun (k : Nat) => Value.int k 0).toArray 0 })
      (fun A' hh => ?_) ?_ (intsAre_map _ hI) ?_ ?_ ?_ ?_
    · rw [sl]
      exact walk_drawn hh _ a _ (Nat.ne_of_lt (Nat.lt_succ_of_lt alt)) (Nat.ne_of_lt (Nat.lt_succ_self _)) es ep t ps hps
    · refine ⟨?_, ⟨o, Heap.get?_push_of_some _ (Heap.get?_push_of_some _ ho), hx, hdat, hf⟩, Heap.get?_push_of_some _ (Heap.get?_push_size _ rfl)⟩
      have g := Heap.get?_push_size (s.heap.push { cls := .type "tuple", data := .seq (ps.map fun (k : Nat) => Value.int k 0).toArray 0 }) (o := { cls := .type "set_iterator", data := .fields #[.ref s.heap.objs.size, .int (0 : Nat) 0, .ref a, .int es.size 0, .int ep 0] }) rfl
      rw [lt1] at g
      exact g
    · refine List.Perm.trans ?_ hpm
      rw [em]
      exact pm.map numOf
    · exact Nat.le_succ _
    · intro b hb'
      simp only [List.mem_cons, List.not_mem_nil, or_false] at hb'
      rcases hb' with rfl | rfl | rfl
      · exact .inr (Nat.le_succ _)
      · exact .inl rfl
      · exact .inr (Nat.le_refl _)
    · exact fun b o' e => Heap.get?_push_of_some _ (Heap.get?_push_of_some _ e)
  · next z =>
    refine wpAny_bind (wpAny_pure ?_)
    refine wpAny_bind (wpAny_setEpoch_of ho hdat hf ?_)
    refine wpAny_bind (wpAny_newObj_type (wpAny_pure ⟨_, rfl, "set_iterator", _, ⟨_, Heap.get?_push_size _ rfl, rfl⟩, sl_next.lookup, ?_⟩))
    have sa : SA (s.heap.push { cls := .type "set_iterator", data := .fields #[.int (0 : Nat) 0, .int (0 : Nat) 0, .ref a, .int es.size 0, .int ep 0] }) a es ep t := ⟨o, Heap.get?_push_of_some _ ho, hx, hdat, hf⟩
    have fpl : ∀ b ∈ [s.heap.objs.size, a], b = a ∨ s.heap.objs.size ≤ b := fun b hb' => by
      simp only [List.mem_cons, List.not_mem_nil, or_false] at hb'
      rcases hb' with rfl | rfl
      · exact .inr (Nat.le_refl _)
      · exact .inl rfl
    by_cases ht : byT w = true
    · have pm := (pick_perm (w.params.setOrder a ep) es).map (·.2)
      have sl : ((pickOrder (w.params.setOrder a ep) es).toList.map (·.2)).length = es.size := by rw [pm.length_eq, List.length_map, Array.length_toList]
      have hI : ∀ v ∈ (pickOrder (w.params.setOrder a ep) es).toList.map (·.2), ∃ n t, v = .int n t := fun v hv => (ints_of hel).all v (pm.mem_iff.mp hv)
      refine q _ _ s.drawn [s.heap.objs.size, a] ((pickOrder (w.params.setOrder a ep) es).toList.map (·.2)) _ (fun i h => SI h s.heap.objs.size (.int (0 : Nat) 0) i a es.size ep ∧ SA h a es ep t) (fun A' hh => ?_) ⟨Heap.get?_push_size _ rfl, sa⟩ (intsAre_map _ hI) ?_ (Nat.le_refl _) fpl fun b o' e => Heap.get?_push_of_some _ e
      · rw [sl]
        exact walk_text hh _ a (Nat.ne_of_lt alt) es ep t ht
      · refine List.Perm.trans ?_ hpm
        rw [em]
        exact pm.map numOf
    · have hf0 : byT w = false := Bool.not_eq_true _ ▸ ht
      have hd : (!t.plain && decide (es.size > 1)) = false := by
        have z : ¬ ((!byT w && (!t.plain && decide (es.size > 1))) = true) := z
        rw [hf0] at z
        simpa using z
      have sl : (es.toList.map (·.2)).length = es.size := by rw [List.length_map, Array.length_toList]
      refine q _ _ s.drawn [s.heap.objs.size, a] (es.toList.map (·.2)) _ (fun i h => SI h s.heap.objs.size (.int (at0 t i : Nat) 0) i a es.size ep ∧ SA h a es ep t) (fun A' hh => ?_) ⟨Heap.get?_push_size _ rfl, sa⟩ (ints_of hel) hpm (Nat.le_refl _) fpl fun b o' e => Heap.get?_push_of_some _ e
      rw [sl]
      exact walk_plain hh _ a (Nat.ne_of_lt alt) es ep t hf0 hd (by rw [hled, hf0]; rfl) hr hz
end
end Srt

set_option Elab.async false
set_option linter.all false
set_option maxRecDepth 100000
set_option maxHeartbeats 4000000
namespace Srt
open PySem PyProof.Rows PySem.Spec
theorem ds_of {vs : List Value} {ns : List Int} (hI : IntsAre vs ns) (nd : ns.Nodup) : Ds (pairsOf vs) := by
  unfold Ds
  rw [pairsOf_toList]
  have e : (vs.zip vs).map key = ns := by
    have q : (vs.zip vs).map key = ((vs.zip vs).map Prod.fst).map numOf := by
      rw [List.map_map]
      rfl
    rw [q, List.map_fst_zip (Nat.le_refl _), hI.nums]
  rw [e]
  exact nd
section
variable {P : Program} {w : World} {A : Around} {E : Value → Shared → Prop} {s : Shared}
theorem sort_many {a : Addr} {vs : List Value} {ns : List Int} {n : Nat} {Pq : Fin → Shared → Prop} (ho : s.heap.get? a = some (seqObj "list" vs.toArray n)) (hI : IntsAre vs ns) (nd : ns.Nodup) (h128 : vs.length < 128)
    (h : ∀ (out : Array Value) (ns' : List Int), IntsAre out.toList ns' → ns'.Perm ns → ns'.Pairwise (· ≤ ·) → Pq (.done (.ret .none)) { s with heap := sortedHeap s.heap a vs out }) : wpAny (model P w) A (Builtin.«list.sort» ⟨[.ref a], []⟩) Pq E s := by
  by_cases h64 : vs.length < 64
  · exact list_sort_tree ho hI h64 h
  have alt : a < s.heap.objs.size := Heap.lt_size ho
  rw [list_sort_plain]
  refine wpAny_bind (listItems_at ho rfl (wpAny_bind (listUpdate_at ho rfl ?_)))
  obtain ⟨e1, ho1⟩ : ∃ e1, (s.heap.update a (Obj.mapSeq fun _ => #[])).get? a = some (seqObj "list" #[] e1) := ⟨_, get?_update_seq ho (fun _ => #[])⟩
  refine wpAny_bind (seqEpoch_at ho1 rfl (wpAny_bind (wpAny_newTuple (wpAny_bind (wpAny_newList (wpAny_holding ?_))))))
  have ho6 : (((s.heap.update a (Obj.mapSeq fun _ => #[])).push (seqObj "tuple" vs.toArray 0)).push (seqObj "list" #[] 0)).get? a = some (seqObj "list" #[] e1) := Heap.get?_push_of_some _ (Heap.get?_push_of_some _ ho1)
  show wpAny (model P w) A _ Pq E { s with heap := ((s.heap.update a (Obj.mapSeq fun _ => #[])).push (seqObj "tuple" vs.toArray 0)).push (seqObj "list" #[] 0) }
  dsimp only
  have hsz : vs.toArray.size = vs.length := by simp
  rw [if_neg (by omega), if_neg (by omega)]
  obtain ⟨v₁, v₂, rest, rfl⟩ : ∃ v₁ v₂ rest, vs = v₁ :: v₂ :: rest := by
    match vs, h64 with
    | [], z => exact absurd (by decide) z
    | [x], z => exact absurd (show 1 < 64 by decide) z
    | a :: b :: r, _ => exact ⟨a, b, r, rfl⟩
  rw [keyKind_ints hI]
  refine wpAny_bind (wpAny_pure ?_)
  refine wpAny_bind (wpAny_mono (wpS_runs (a₀ := pairsOf (v₁ :: v₂ :: rest)) (st := SortSt.mk' oneType' ((v₁ :: v₂ :: rest).toArray.zip (v₁ :: v₂ :: rest).toArray) #[] 7 none)
    (Q := fun _ st' => (arrOf st').Perm (pairsOf (v₁ :: v₂ :: rest)) ∧ failedOf st' = none ∧ SortedTo (arrOf st') (pairsOf (v₁ :: v₂ :: rest)).size)
    hI.intKeys (ds_of hI nd) ⟨Array.Perm.refl _, rfl, rfl, rfl⟩ (by rw [pairsOf_size]; omega) (by rw [pairsOf_size]; exact h128) fun st' a1 a2 a3 => ⟨a1, a2, a3⟩) ?_ fun _ _ e => e)
  rintro ⟨⟨⟩, st'⟩ s' ⟨rfl, hp, hf, hs⟩
  dsimp only
  refine wpAny_bind (seqEpoch_at ho6 rfl ?_)
  have zz : ((arrOf st').map (·.2)).size ≤ sizeLine + 1 := by
    rw [Array.size_map, hp.size_eq, pairsOf_size, sizeLine_eq]
    omega
  refine wpAny_bind (listUpdate_at ho6 rfl ?_ (hsz2 := zz))
  rw [hf]
  simp only [bne_self_eq_false, Bool.false_eq_true, if_false]
  obtain ⟨ns', b1, b2, b3⟩ := sorted_out hI hp hs
  exact wpAny_pure (h _ ns' b1 b2 b3)
theorem wp_pos {α : Type} {M : Model} {c : Prop} [Decidable c] {t e : Sem α} {Q : α → Shared → Prop} (hc : c) (h : wpAny M A t Q E s) : wpAny M A (if c then t else e) Q E s := by
  rw [if_pos hc]
  exact h
theorem sl_len : splitId "set.__len__" = some ("set", "__len__") := by decide +kernel
/-- the length is asked in silence -/
theorem hint_set {a : Addr} {Q : Bool → Shared → Prop} (hT : s.TypeIs (.ref a) "set") (h : Q false s) : wpAny (model P w) A (Builtin.List.listLengthHint (.ref a)) Q E s := by
  unfold Builtin.List.listLengthHint
  refine wpAny_bind (wpAny_specialOf hT F.slot_set_len.lookup ?_)
  dsimp only
  rw [sl_len]
  dsimp only
  refine wpAny_bind (wpAny_isInstance (b := true) hT sub_set_self ?_)
  rw [if_neg (by decide)]
  refine wp_pos (by decide +kernel) ?_
  refine wpAny_bind (wpAny_typeOf hT ?_)
  exact wpAny_pure h
theorem same_no {a b : Addr} (h : a ≠ b) : Builtin.List.listSameRef (.ref a) (.ref b) = false := by
  unfold Builtin.List.listSameRef
  simp [h]
/-- all of a set, in some order -/
theorem collect_set {a : Addr} {l : List Int} {Q : List Value → Shared → Prop} (hh : A.handled = none) (hS : IS P w s.heap a l)
    (q : ∀ (vs : List Value) (ns : List Int) (s' : Shared), IntsAre vs ns → ns.Perm l → s'.gens = s.gens → s'.os = s.os → (∀ b o, s.heap.get? b = some o → s'.heap.get? b = some o) → Q vs s') : wpAny (model P w) A (collect (.ref a)) Q E s := by
  have alt : a < s.heap.objs.size := by
    obtain ⟨o, es, ep, t, ho, _⟩ := hS
    exact Heap.lt_size ho
  have hl : l.length < scanBound := by
    obtain ⟨o, es, ep, t, ho, hx, hdat, hel, hpm, hnd, hb, hf, hr, hled⟩ := hS
    rw [← hpm.length_eq, List.length_map, Array.length_toList]
    exact hb
  unfold collect
  refine wpAny_bind (wpAny_runValue (codeAny_builtin F.entry_proto_collect ?_))
  rw [Around.under_plainId F.plain_proto_collect _]
  show wpAny _ A.in1 (newList [] >>= fun z => again (.builtin "list.__iadd__" ⟨[z, .ref a], []⟩)) _ _ s
  refine wpAny_bind (wpAny_newObj_type (wpAny_pure ⟨plainId_quiet F.plain_list_iadd _, codeAny_builtin F.entry_list_iadd ?_⟩))
  rw [Around.under_plainId F.plain_list_iadd _]
  have g0 : (s.heap.push (seqObj "list" #[] 0)).get? s.heap.objs.size = some (seqObj "list" #[] 0) := Heap.get?_push_size _ rfl
  have hS1 : IS P w (s.heap.push (seqObj "list" #[] 0)) a l := hS.keep fun o e => Heap.get?_push_of_some _ e
  show wpAny _ A.in1 (Builtin.List.listExtendWith (.ref s.heap.objs.size) (.ref a) (.ref s.heap.objs.size)) _ _ { s with heap := s.heap.push (seqObj "list" #[] 0) }
  unfold Builtin.List.listExtendWith
  refine wpAny_bind (wpAny_typeOf (s := { s with heap := s.heap.push (seqObj "list" #[] 0) }) (T := "set") (IS.type (s := { s with heap := s.heap.push (seqObj "list" #[] 0) }) hS1) ?_)
  rw [if_neg (by rw [same_no (Nat.ne_of_gt alt)]; decide)]
  refine wpAny_bind (iter_set (s := { s with heap := s.heap.push (seqObj "list" #[] 0) }) hS1 fun it h' d fp seq ns St W st hi hp hit hfp hk => ?_)
  have hT' : Shared.TypeIs { s with heap := h', drawn := d } (.ref a) "set" := IS.type (s := { s with heap := h', drawn := d }) (hS1.keep fun o e => hk a o e)
  refine wpAny_bind (wpAny_holding (hint_set hT' ?_))
  have g1 : h'.get? s.heap.objs.size = some (seqObj "list" #[] 0) := hk _ _ g0
  dsimp only
  refine wp_pos (by decide +kernel) ?_
  refine wpAny_bind (wpAny_rule ?_)
  have lz : l.length ≤ sizeLine := fits_of_scanBound hl
  have ls : seq.length = l.length := by rw [IntsAre.length hi, hp.length_eq]
  have nS : s.heap.objs.size ∉ fp := fun z => by
    rcases hfp _ z with e | e
    · exact absurd alt (e ▸ Nat.lt_irrefl _)
    · have e : (s.heap.push (seqObj "list" #[] 0)).objs.size ≤ s.heap.objs.size := e
      rw [Heap.size_push] at e
      exact absurd e (Nat.not_succ_le_self _)
  unfold Builtin.List.listTouch
  refine wpAny_bind (wpAny_bind (listUpdate_at (s := { s with heap := h', drawn := d }) g1 rfl ?_))
  have g2 := get?_update_seq g1 (fun x => x.push .none)
  refine listUpdate_at (s := { s with heap := h'.update s.heap.objs.size (Obj.mapSeq fun x => x.push .none), drawn := d }) g2 rfl ?_
  have g3 := get?_update_seq g2 (fun x => x.pop)
  have oth : ∀ b o, b ≠ s.heap.objs.size → h'.get? b = some o → ((h'.update s.heap.objs.size (Obj.mapSeq fun x => x.push .none)).update s.heap.objs.size (Obj.mapSeq fun x => x.pop)).get? b = some o := fun b o hb e => by
    rw [Heap.get?_update_ne _ _ _ _ hb, Heap.get?_update_ne _ _ _ _ hb]
    exact e
  have WS := (W A.in1 hh).toS
  refine wpAny_pure ⟨plainId_quiet F.plain_extend_loop _, codeAny_extend_loopS WS (by omega) _ nS _ seq.length 0 _ _ _ rfl (Nat.zero_le _) (WS.frame 0 { s with heap := h', drawn := d } _ s.toks st (Nat.le_refl _) fun b hb o e => oth b o (fun z => nS (z ▸ hb)) e) g3 (ItemsOf.nil _) fun s' acc' c' hm g4 hacc => ?_⟩
  show wpAny _ A (load s.heap.objs.size >>= _) _ _ s'
  refine wpAny_bind (wpAny_load g4 ?_)
  have ev : acc'.toList = seq := by
    have lv : acc'.size = seq.length := hacc.1
    refine List.ext_getElem? fun j => ?_
    rw [Array.getElem?_toList]
    by_cases hj : j < acc'.size
    · have e1 : acc'[j]? = some acc'[j] := getElem?_pos acc' j hj
      rw [e1]
      exact (hacc.2 j _ e1).symm
    · rw [getElem?_neg acc' j hj, List.getElem?_eq_none (by omega)]
  refine wpAny_pure ?_
  rw [ev]
  refine q seq ns s' hi hp hm.gens hm.os fun b o e => ?_
  have bl : b < s.heap.objs.size := Heap.lt_size e
  refine hm.heap b o ?_ (oth b o (Nat.ne_of_lt bl) (hk b o (Heap.get?_push_of_some _ e)))
  have it1 : s.heap.objs.size + 1 ≤ it := by
    have z : (s.heap.push (seqObj "list" #[] 0)).objs.size ≤ it := hit
    rw [Heap.size_push] at z
    exact z
  simp only [List.mem_cons, List.not_mem_nil, or_false, not_or]
  exact And.intro (Nat.ne_of_lt bl) (Nat.ne_of_lt (Nat.lt_trans bl it1))
/-- sorted(s), s a set of ints -/
theorem sorted_set {a : Addr} {l : List Int} {Q : Value → Shared → Prop} (hh : A.handled = none) (hS : IS P w s.heap a l) (h128 : l.length < 128)
    (h : ∀ (s1 : Shared) (h' : Heap) (out : List Value) (ns : List Int) (e : Nat), IntsAre out ns → ns.Perm l → ns.Pairwise (· ≤ ·) → h'.get? s1.heap.objs.size = some (seqObj "list" out.toArray e) → s1.gens = s.gens → s1.os = s.os →
      (∀ b o, s.heap.get? b = some o → s1.heap.get? b = some o) → (∀ b o, s1.heap.get? b = some o → h'.get? b = some o) → Q (.ref s1.heap.objs.size) { s1 with heap := h' }) : wpAny (model P w) A (call (.builtin "sorted") [.ref a]) Q E s := by
  refine Calls.call_function_entry kind_sorted plain_sorted entry_sorted (args_sorted1 _) ?_
  unfold Builtin.«sorted»
  refine wpAny_bind (m := checkCount "sorted" 1 1 _) (wpAny_pure ?_)
  refine wpAny_bind (collect_set hh hS fun vs ns s1 hi hp hg ho hk => ?_)
  have lv : vs.length = l.length := by rw [IntsAre.length hi, hp.length_eq]
  have lz : vs.length ≤ sizeLine := by
    rw [sizeLine_eq]
    omega
  refine wpAny_bind (wpAny_newList ?_)
  have g0 : (s1.heap.push (seqObj "list" vs.toArray 0)).get? s1.heap.objs.size = some (seqObj "list" vs.toArray 0) := Heap.get?_push_size _ rfl
  show wpAny _ _ _ _ _ { s1 with heap := s1.heap.push (seqObj "list" vs.toArray 0) }
  refine wpAny_bind (wpAny_holding (wpAny_call_entry slot_list_sort ⟨_, g0, rfl⟩ entry_list_sort (sort_many (s := { s1 with heap := s1.heap.push (seqObj "list" vs.toArray 0) }) g0 hi (hp.nodup_iff.mpr hS.nd) (by omega) fun out ns' a1 a2 a3 => ⟨_, rfl, ?_⟩) (args_list_sort _)))
  obtain ⟨e, he⟩ := sortedHeap_at (out := out) g0
  refine wpAny_pure ⟨_, rfl, h s1 _ out.toList ns' e a1 (a2.trans hp) a3 he hg ho hk fun b o z => ?_⟩
  have z1 : (s1.heap.push (seqObj "list" vs.toArray 0)).get? b = some o := Heap.get?_push_of_some _ z
  rw [sortedHeap_old (Nat.ne_of_lt (Heap.lt_size z)) (Heap.lt_size z1)]
  exact z1
end
end Srt

set_option Elab.async false
set_option linter.all false
set_option maxRecDepth 100000
set_option maxHeartbeats 4000000
namespace L2
open PySem PySem.Spec PyProof.Rows Srt
/-- a set of ints in the heap -/
def setO (P : Program) (w : World) (a : Addr) (l : List Int) : HO := .ext fun h => IS P w h a l
section
variable {X : Cx} {pins : List (Addr × Obj)} {σ : St} {H : Hp} {s : Shared}
theorem Inv.iset {a : Addr} {l : List Int} (I : Inv X pins σ H s) (h : H a = some (setO X.prog X.w a l)) : IS X.prog X.w s.heap a l := (I.hok a _ h).1
theorem setO_ok {P : Program} {w : World} {H : Hp} {h : Heap} {a : Addr} {l : List Int} (x : IS P w h a l) : ObjOk P w H h a (setO P w a l) := by
  refine ⟨x, ?_, fun h1 h2 y k => y.keep k⟩
  obtain ⟨o, es, ep, t, ho, _⟩ := x
  exact ⟨o, ho⟩
/-- set() -/
theorem call_set0 : CallR X (.type "set") (fun xs H Q => xs = [] ∧ ∀ a, H a = none → Q (.ref a) (upd H a (setO X.prog X.w a []))) := by
  intro pins s σ H xs us Q I r h
  obtain ⟨rfl, q⟩ := h
  cases r
  refine Srt.set0 ?_
  exact ⟨.ref s.heap.objs.size, _, I.laid (t' := s.toks) (fun _ _ e => Heap.get?_push_of_some _ e) (Nat.le_refl _) (setO_ok (IS.new (Heap.get?_push_size _ rfl))), rfl, q _ (I.hok.fresh (Nat.le_refl _))⟩
theorem ints_rel : ∀ {ns : List Int} {us : List Value}, Vals (ns.map V.int) us → IntsAre us ns
  | [], _, .nil => .nil
  | n :: r, _, .cons ⟨t, e⟩ h => by
    subst e
    exact .cons n t (ints_rel h)
theorem rel_ints : ∀ {ns : List Int} {us : List Value}, IntsAre us ns → Vals (ns.map V.int) us
  | _, _, .nil => .nil
  | _, _, .cons n t h => .cons ⟨t, rfl⟩ (rel_ints h)
/-- set(l) of a list of ints -/
theorem call_set1 (hc : X.calm = true) : CallR X (.type "set") (fun xs H Q => ∃ (p : Addr) (ns : List Int), xs = [.ref p] ∧ SqL X.K H p (ns.map V.int) ∧ ns.length ≤ 1000 ∧ ∀ a, H a = none → Q (.ref a) (upd H a (setO X.prog X.w a (ofL ns)))) := by
  intro pins s σ H xs us Q I r h
  obtain ⟨p, ns, rfl, hq, hz, q⟩ := h
  obtain ⟨u, rfl, rx⟩ := vals1 r
  cases rx
  obtain ⟨its, r', pl, _⟩ := I.list hq
  have hI := ints_rel r'
  have hlen : its.length = ns.length := IntsAre.length hI
  refine Srt.set1 (I.ok.hd hc) pl.isList hI (by show its.length + 1 < 4096; omega) fun h' tk is k => ?_
  exact ⟨.ref s.heap.objs.size, _, I.laid (t' := tk) (fun b o e => k b o (Heap.lt_size e) e) (Nat.le_refl _) (setO_ok is), rfl, q _ (I.hok.fresh (Nat.le_refl _))⟩
/-- sorted(s) of a set of ints -/
theorem call_sorted_set (hc : X.calm = true) : CallR X (.builtin "sorted") (fun xs H Q => ∃ (p : Addr) (l : List Int), xs = [.ref p] ∧ H p = some (setO X.prog X.w p l) ∧ l.length < 128 ∧
    ∀ (ns : List Int) a, ns.Perm l → ns.Pairwise (· ≤ ·) → H a = none → Q (.ref a) (upd H a (.lst (ns.map V.int)))) := by
  intro pins s σ H xs us Q I r h
  obtain ⟨p, l, rfl, hp, hz, q⟩ := h
  obtain ⟨u, rfl, rx⟩ := vals1 r
  cases rx
  refine sorted_set (I.ok.hd hc) (I.iset hp) hz fun s1 h' out ns e hi pm srt g hg ho k1 k2 => ?_
  have I1 : Inv X pins σ H s1 := I.call' (ch := []) ho (Un.kept k1) (I.hok.kept k1) (by rw [hg]; exact I.bare) fun b z => absurd z (by simp)
  have ln : (ns.map V.int).length ≤ sizeLine := by
    rw [List.length_map, pm.length_eq, sizeLine_eq]
    omega
  exact ⟨.ref s1.heap.objs.size, _, I1.laid (t' := s1.toks) k2 (Nat.le_refl _) (show ObjOk X.prog X.w _ h' _ (.lst (ns.map V.int)) from ⟨ln, out, e, rel_ints hi, g⟩), rfl, q ns _ pm srt (I1.hok.fresh (Nat.le_refl _))⟩
end
/-- s.add(e) -/
def tSAdd (P : Program) (w : World) (to : TE) (t : TA) : TE := fun σ H Q => to σ H fun x H1 => ∃ a l, x = .ref a ∧ H1 a = some (setO P w a l) ∧ t σ H1 fun xs H2 => ∃ l2 i, xs = [.int i] ∧ H2 a = some (setO P w a l2) ∧ l2.length ≤ 1000 ∧ Q .non (upd H2 a (setO P w a (addL l2 i)))
section
variable {X : Cx} {o e : Expr} {to : TE} {t : TA} {apos cpos : Pos}
theorem pe_sadd (ho : PE X o to) (ha : PA X [e] t) (hbase : attributeBase o "add" X.env (eval o X.env) = eval o X.env := by rfl)
    (hfew : ((backTo cpos (starEach [e] X.env)).all (fun x => !x.1) && (backToKw cpos (keywordEach [] X.env)).all (fun x => x.1.isSome) && decide ([e].length + ([] : List Keyword).length + (if ([] : List Keyword).isEmpty then 0 else 1) < 30)) = true := by rfl)
    (hline : (apos.endLine == cpos.line) = true := by rfl) (hs : starEach [e] X.env = [(false, eval e X.env)] := by rfl) : PE X (.Call (.Attribute o "add" apos) [e] [] cpos) (tSAdd X.prog X.w to t) := by
  intro pins s σ H Q I h
  refine wpAny_Call_method_late hbase hfew hline rfl (thn (ho pins s σ H _ I h) fun v s1 ⟨x, H1, I1, r1, a, l, ex, hH, q1⟩ => ?_)
  subst ex
  cases r1
  have is := I1.iset hH
  have nd : ∀ b, Value.ref a = .ref b → ∃ ob, s1.heap.get? b = some ob ∧ ob.dict = none := fun b e => by
    cases e
    obtain ⟨o, es, ep, t, ho, hx, _⟩ := is
    exact ⟨o, ho, hx.2.1⟩
  refine ⟨"set", "set.add", PySem.F.plainAttrs_set, PySem.F.slot_set_add, PySem.F.type_set_add, is.type, nd, ?_⟩
  have hA := ha cpos pins s1 σ H1 _ I1 q1
  rw [hs] at hA ⊢
  refine Calls.callWith_builtin rfl (Calls.evalArgs_plain ?_)
  refine thn hA fun us s2 ⟨vs, H2, I2, r2, l2, i, ev, hH2, hz, q2⟩ => ?_
  subst ev
  obtain ⟨u, rfl, ru⟩ := r2.one
  obtain ⟨tk, rfl⟩ := ru
  refine call_add (I2.iset hH2) (by show l2.length + 1 < 4096; omega) fun h' sb is' => ?_
  refine ⟨.non, _, I2.write (t' := s2.toks + 1) (x := a) (e := a) (o := setO X.prog X.w a (addL l2 i)) (by rw [hH2]; trivial) (.inl rfl) (fun b u hb e => sb.extBut b u hb e) ?_ (setO_ok is'), rfl, q2⟩
  obtain ⟨o, es, ep, t, ho, _⟩ := is'
  exact ⟨o, ho⟩
end
end L2

set_option Elab.async false
set_option linter.all false
set_option maxRecDepth 100000
set_option maxHeartbeats 4000000
namespace K09
open PySem L2
def top (i : Nat) : Stmt := PySem.Challenge.pw_likepieces_k09_loose_owns.main.body.getD i (.Pass ⟨0, 0, 0, 0⟩)
abbrev sParts : Stmt := top 4
abbrev sSteps : Stmt := top 5
abbrev sLoose : Stmt := top 7
abbrev sFeed : Stmt := top 9
abbrev sDraw : Stmt := top 10
abbrev sLawValue : Stmt := top 11
abbrev sLawParts : Stmt := top 12
abbrev sOwn : Stmt := top 13
abbrev sForm : Stmt := top 14
abbrev sChain : Stmt := top 15
abbrev sAstray : Stmt := top 16
abbrev sLaw : Stmt := top 17
structure TxtT (mg : Str → Option Value) : Prop where
  isi : mg "isinstance" = none
  int : mg "int" = none
  bl : mg "bool" = none
  tup : mg "tuple" = none
  len : mg "len" = none
/-- the parts of a node, a new tuple of them -/
def spParts : Sp := fun vs H Q _ => ∃ (H0 : Hp) (v : V) (ts : List Th), vs = [v] ∧ Same H0 H ∧ IsTh H0 v (.tup ts) ∧ ts.length ≤ 1000000 ∧
  ∀ (p : Addr) (ws : List V) H', Same H H' → H' p = some (.tup ws) → IsThs H0 ws (kidsL ts) → Q (.ref p) H'
section
variable {P : Program} {w : World} {K : PySem.W.Frag} {mg : Str → Option Value} {base : Heap}
theorem scParts : FnScope ["e"] ["e"] (defScope sParts) := ⟨rfl, rfl, rfl, by decide +kernel, rfl, by decide +kernel, by decide +kernel⟩
theorem ok_parts {f : Addr} {fd : FuncData} (F : Fun K "parts" "parts" sParts f fd) (T : TxtT mg) (KI : Kits K) : FnOk P w K mg base CX0 1 f fd ["e"] spParts := by
  refine F.ok scParts (fun vs H Q E h => ?_) (fun cdv A outer s H vs Q E hr h => ?_)
  · obtain ⟨H0, v, ts, rfl, _⟩ := h
    rfl
  · obtain ⟨H0, v, ts, rfl, s0, hv, hz, k⟩ := h
    refine ⟨_, pss_one (ps_ret (pe_callTy call_tuple_of (by rfl) T.tup (by decide +kernel) (pa_cons (pe_comp (N' := ["part"]) (src := [none]) rfl (compScope_of (defScope sParts) rfl ["e"] rfl (by decide +kernel)) (pi_tup (pv 0))
      (fun cl C ex s0' H0' => ⟨pg_name (i := 0) (nd1 _) rfl (Or.inl rfl), pts_one (pt_val (pe_callB (id := "isinstance") (call_isinstK (K := K) rfl) (by rfl) T.isi (by decide +kernel) (pa_n (pv 0) (pa_n (pe_bltn (v := .ty "tuple") (by rfl) T.tup (by decide +kernel) rfl) pa_nil)))), pv 0⟩)) pa_nil))), ?_⟩
    obtain ⟨a, xs, rfl, ha0, hts⟩ := th_tup hv
    have ha := s0 _ _ ha0
    have hl := IsThs.len _ hts
    refine ⟨_, rfl, a, rfl, ⟨_, SqT.of ha⟩, comp_tup (K := K) (a := a) (xs := xs) (fun i ys σc H' => ∃ o, σc = [o] ∧ IsThs H0 ys ((ts.take i).filter isTup) ∧ ys.length ≤ i ∧ H' = H) ⟨none, rfl, by rw [List.take_zero]; exact .nil, Nat.le_refl _, rfl⟩ (fun i ys σc H' ⟨_, _, _, _, e⟩ => by rw [e]; exact SqT.of ha) ?_ ?_⟩
    · rintro i x ys σc H' hx hi ⟨o, rfl, hys, hyl, rfl⟩
      obtain ⟨t, ht, h1⟩ := ths_get _ hts hx
      have hnext : (ts.take (i + 1)).filter isTup = (ts.take i).filter isTup ++ (if isTup t = true then [t] else []) := take_nextR _ ht
      refine ⟨by have : sizeLine = 16777216 := sizeLine_eq; omega, ?_⟩
      refine ⟨_, rfl, _, _, _, _, rfl, th_ty (IsTh.kp (Kp.of s0) h1), KI.tup h1, _, rfl, ite2 (fun g => ?_) (fun g => ?_)⟩
      · refine ⟨_, rfl, nx hi ⟨_, rfl, ?_, by rw [List.length_append]; show ys.length + 1 ≤ i + 1; omega, rfl⟩⟩
        rw [hnext, if_pos g]
        exact IsThs.app _ hys (.cons h1 .nil)
      · refine nx hi ⟨_, rfl, ?_, by omega, rfl⟩
        rw [hnext, if_neg g, List.append_nil]
        exact hys
    · rintro ys σc H' ⟨o, rfl, hys, hyl, rfl⟩ l hl'
      refine ⟨l, _, rfl, .inl ⟨SqL.of upd_same, fun p hp => ?_⟩⟩
      rw [List.take_of_length_le (by omega)] at hys
      have s2 := (same_upd (o := .lst ys) hl').trans (same_upd (o := .tup ys) hp)
      exact k p ys _ s2 upd_same hys
end
end K09

set_option Elab.async false
set_option linter.all false
set_option maxRecDepth 100000
set_option maxHeartbeats 4000000
namespace K09
open PySem L2
/-- the heap without two objects -/
def off (a b : Addr) (H : Hp) : Hp := fun c => if c = a ∨ c = b then none else H c
theorem off_sub {a b : Addr} {H : Hp} : Same (off a b H) H := fun c o e => by
  unfold off at e
  split at e
  · cases e
  · exact e
theorem off_in {a b c : Addr} {H : Hp} {o : HO} (h : H c = some o) (h1 : c ≠ a) (h2 : c ≠ b) : off a b H c = some o := by
  unfold off
  rw [if_neg (fun z => z.elim h1 h2)]
  exact h
theorem off_upd1 {a b : Addr} {H : Hp} {o : HO} : off a b (upd H a o) = off a b H := by
  funext c
  unfold off
  split
  · rfl
  · next h => rw [upd_ne (fun z => h (.inl z))]
theorem off_upd2 {a b : Addr} {H : Hp} {o : HO} : off a b (upd H b o) = off a b H := by
  funext c
  unfold off
  split
  · rfl
  · next h => rw [upd_ne (fun z => h (.inr z))]
theorem off_same {a b : Addr} {H H' : Hp} (s : Same H H') : Same (off a b H) (off a b H') := fun c o e => by
  unfold off at e ⊢
  split at e
  · cases e
  · next h => rw [if_neg h]; exact s c o e
theorem off_of {a b : Addr} {H0 H : Hp} (s : Same H0 H) (h1 : H0 a = none) (h2 : H0 b = none) : Same H0 (off a b H) := fun c o e => off_in (s c o e) (fun z => by rw [z, h1] at e; cases e) (fun z => by rw [z, h2] at e; cases e)
structure TxtD (mg : Str → Option Value) : Prop where
  node : ∃ tk, mg "NODE" = some (.str "node" tk)
  opened : ∃ tk, mg "OPENED" = some (.str "opened" tk)
  closed : ∃ tk, mg "CLOSED" = some (.str "closed" tk)
def spSteps (N : Nat) : Sp := fun vs H Q _ => ∃ (v : V) (t : Th), vs = [v] ∧ IsTh H v t ∧ OkT N t ∧ Th.sz t ≤ 100000 ∧
  ∀ (p : Addr) (ws : List V) H', Same H H' → H p = none → H' p = some (.lst ws) → IsThs H' ws ((stepsT t).map pr) → Q (.ref p) H'
mutual
theorem len_steps : ∀ t : Th, (stepsT t).length ≤ 3 * Th.sz t
  | .tup xs => by
    rw [stepsT, Th.sz, List.length_cons]
    have := len_inner (isLetT xs) (.tup xs) xs 0
    omega
  | .at _ => by simp [stepsT]
  | .lst _ => by simp [stepsT]
theorem len_inner (l : Bool) (me : Th) : ∀ (xs : List Th) (i : Nat), (innerT l me i xs).length ≤ 3 * szs xs + (2 - i)
  | [], i => by simp [innerT, szs]
  | x :: xs, i => by
    rw [innerT, szs]
    have h1 := len_steps x
    have hm : (markT l me i).length ≤ (2 - i) - (2 - (i + 1)) := by
      match i with
      | 0 => cases l <;> simp [markT]
      | 1 => cases l <;> simp [markT]
      | _ + 2 => simp [markT]
    split
    · have h2 := len_inner l me xs (i + 1)
      rw [List.length_append, List.length_append]
      omega
    · have h2 := len_inner l me xs i
      omega
end
end K09

set_option Elab.async false
set_option linter.all false
set_option maxRecDepth 100000
set_option maxHeartbeats 4000000
namespace K09
open PySem L2
/-- a stack or a walk in the heap -/
abbrev prs (l : List (Str × Th)) : List Th := l.map pr
theorem prs_last {H : Hp} {ws : List V} {st : List (Str × Th)} (h : IsThs H ws (prs st)) (hne : ws ≠ []) : ∃ ws' y st' d t a vn, ws = ws' ++ [y] ∧ st = st' ++ [(d, t)] ∧ IsThs H ws' (prs st') ∧ y = .ref a ∧ H a = some (.tup [.str d, vn]) ∧ IsTh H vn t := by
  obtain ⟨ws', y, us', u, e1, e2, h1, h2⟩ := ths_last ws h hne
  have hn : st ≠ [] := fun z => by
    subst z
    have := congrArg List.length e2
    simp [prs] at this
  obtain ⟨st', x, rfl⟩ : ∃ st' x, st = st' ++ [x] := ⟨st.dropLast, st.getLast hn, (List.dropLast_concat_getLast hn).symm⟩
  have e3 : prs (st' ++ [x]) = prs st' ++ [pr x] := by simp [prs]
  rw [e3] at e2
  have e4 := List.append_inj' e2 rfl
  obtain ⟨e5, e6⟩ := e4
  have e6' : pr x = u := by simpa using e6
  subst e6' e5
  obtain ⟨a, vs, rfl, ha, hvs⟩ := th_tup h2
  cases hvs with
  | cons c1 c2 =>
    cases c2 with
    | cons c3 c4 =>
      cases c4
      obtain ⟨rfl, _⟩ := th_at c1
      exact ⟨ws', _, st', x.1, x.2, a, _, e1, rfl, h1, rfl, ha, c3⟩
theorem small_deed {d : Str} (h : d = "node" ∨ d = "opened" ∨ d = "closed") : smallV (.str d) = true := by
  rcases h with rfl | rfl | rfl <;> decide +kernel
theorem at_head (v : V) (vs : List V) : atI (v :: vs) 0 = some v := atI_nat (j := 0) rfl
theorem at_next (u v : V) (vs : List V) : atI (u :: v :: vs) 1 = some v := atI_nat (j := 1) rfl
theorem steps_pos {n : Nat} {t : Th} (h : OkT n t) : 1 ≤ (stepsT t).length := by
  cases n with
  | zero => exact h.elim
  | succ n =>
    obtain ⟨w, ts, rfl, _⟩ := h
    rw [stepsT, List.length_cons]
    omega
/-- a stack's entries: which deeds, and nodes that are trees -/
def StOk (N : Nat) (p : Str × Th) : Prop := (p.1 = "node" ∨ p.1 = "opened" ∨ p.1 = "closed") ∧ OkT N p.2 ∧ Th.sz p.2 ≤ 100000
theorem todo_len {N : Nat} : ∀ (st : List (Str × Th)), (∀ x ∈ st, StOk N x) → st.length ≤ (todoT st).length := by
  intro st
  induction st with
  | nil => intro _; exact Nat.zero_le _
  | cons x st ih =>
    intro h
    have h1 := ih (fun y hy => h y (List.mem_cons_of_mem _ hy))
    have h2 : 1 ≤ (todo1 x).length := by
      unfold todo1
      split
      · exact steps_pos (h x (List.mem_cons_self ..)).2.1
      · exact Nat.le_refl _
    have e : todoT (x :: st) = todoT st ++ todo1 x := by unfold todoT; simp
    rw [e, List.length_append, List.length_cons]
    omega
theorem kids_cons (w : Str) (ts : List Th) : kidsL (.at (.str w) :: ts) = kidsL ts := rfl
theorem isLet_iff {w : Str} {ts : List Th} : isLetT (.at (.str w) :: ts) = decide (w = "let") := rfl
section
variable {P : Program} {w : World} {K : PySem.W.Frag} {mg : Str → Option Value} {base : Heap}
theorem scSteps : FnScope ["tree", "walk", "waiting", "deed", "node", "inner"] ["tree"] (defScope sSteps) := ⟨rfl, rfl, rfl, by decide +kernel, rfl, by decide +kernel, by decide +kernel⟩
theorem ok_steps {f fP : Addr} {fd dP : FuncData} (F : Fun K "steps" "steps" sSteps f fd) (T : TxtT mg) (TD : TxtD mg) (KI : Kits K)
    (FP : Fun K "parts" "parts" sParts fP dP) (bP : Binds K dP ["e"] []) (mP : mg "parts" = some (.ref fP)) (N : Nat) : FnOk P w K mg base CX0 2 f fd ["tree"] (spSteps N) := by
  have GP : FnOk P w K mg base CX0 1 fP dP ["e"] spParts := ok_parts FP T KI
  obtain ⟨tn, hNode⟩ := TD.node
  obtain ⟨to, hOpen⟩ := TD.opened
  obtain ⟨tc, hClose⟩ := TD.closed
  refine F.ok scSteps (fun vs H Q E h => ?_) (fun cdv A outer s H vs Q E hr h => ?_)
  · obtain ⟨v, t, rfl, _⟩ := h
    rfl
  · obtain ⟨v, t, rfl, ht, hok, hz, k⟩ := h
    have hsz : sizeLine = 16777216 := sizeLine_eq
    have hr1 : Room 1 _ := hr.mono (by decide)
    refine' ⟨?tt, ?body, ?fin⟩
    case body =>
      refine' pss_cons ?s1 (pss_cut ?s2 (pss_cons ?s3 (pss_one ?s4)))
      case s1 => exact ps_set (i := 1) scSteps.nd rfl (Or.inl rfl) (pe_lst pa_nil)
      case s2 => exact ps_set (i := 2) scSteps.nd rfl (Or.inl rfl) (pe_lst (pa_t (pe_tup (pa_n (pe_glob (v := .str "node") (by rfl) hNode ⟨tn, rfl⟩) (pa_n (pv 0) pa_nil))) pa_nil))
      case s3 =>
        refine' ps_while PassesOwn.never ?c (pss_cons ?b1 (pss_cut ?b2 (pss_one ?b3)))
        case c => exact pt_truth (pv 2) (fun _ => rfl)
        case b1 => exact ps_asg (pe_bm0 PySem.F.plainAttrs_list PySem.F.slot_list_pop PySem.F.type_list_pop mt_pop (pv 2)) (pg_tup rfl (pgs_cons (pg_name (i := 3) scSteps.nd rfl (Or.inl rfl)) (pgs_cons (pg_name (i := 4) scSteps.nd rfl (Or.inl rfl)) pgs_nil)))
        case b2 => exact ps_expr (pe_bm PySem.F.plainAttrs_list PySem.F.slot_list_append PySem.F.type_list_append mt_append (pv 1) (pa_t (pe_tup (pa_n (pv 3) (pa_n (pv 4) pa_nil))) pa_nil))
        case b3 =>
          refine' ps_if ?d (pss_cut ?c1 (pss_cut ?c2 (pss_one ?c3))) pss_nil
          case d => exact pt_cmpR op_eq (pv 3) (pe_glob (v := .str "node") (by rfl) hNode ⟨tn, rfl⟩) (nomark _)
          case c1 =>
            refine' ps_setComp (i := 5) (N' := ["part"]) (src := [none]) ?k1 ?k2 ?k3 ?k4 ?k5 ?k6 ?k7
            case k1 => rfl
            case k2 => exact scSteps.nd
            case k3 => rfl
            case k4 => exact Or.inl rfl
            case k5 => exact compScope_of (defScope sSteps) rfl ["tree", "walk", "waiting", "deed", "node", "inner"] rfl (by decide +kernel)
            case k6 => exact pi_tup (pe_call GP hr1 (by rfl) mP FP.kp bP .nil pass0 (pa_n (pv 4) pa_nil))
            case k7 => exact fun cl C ex s0 H0 => ⟨pg_name (i := 0) (nd1 _) rfl (Or.inl rfl), pts_nil, pe_tup (pa_n (pe_glob (v := .str "node") (by rfl) hNode ⟨tn, rfl⟩) (pa_n (pv 0) pa_nil))⟩
          case c2 =>
            refine' ps_if ?e (pss_one ?g) pss_nil
            case e => exact pt_cmpR op_eq (pe_ix ix_tup (pv 4) pe_int (fun _ _ => rfl)) pe_str (nomark _)
            case g => exact ps_set (i := 5) scSteps.nd rfl (Or.inl rfl) (pe_lst (pa_cons (pe_ix ix_list (pv 5) pe_int (fun _ _ => rfl)) (pa_t (pe_tup (pa_n (pe_glob (v := .str "opened") (by rfl) hOpen ⟨to, rfl⟩) (pa_n (pv 4) pa_nil))) (pa_cons (pe_ix ix_list (pv 5) pe_int (fun _ _ => rfl)) (pa_t (pe_tup (pa_n (pe_glob (v := .str "closed") (by rfl) hClose ⟨tc, rfl⟩) (pa_n (pv 4) pa_nil))) pa_nil)))))
          case c3 => exact ps_expr (pe_bm PySem.F.plainAttrs_list PySem.F.slot_list_extend PySem.F.type_list_extend mt_extend (pv 2) (pa_cons (pe_rev (pv 5) (pe_un un_neg pe_int)) pa_nil))
      case s4 => exact ps_ret (pv 1)
    case fin =>
      refine ⟨Nat.zero_le _, fun wk hwk => ?_⟩
      refine ⟨fun σ' H' => ∃ wt p0, σ' = [some v, some (.ref wk), some (.ref wt), none, none, none] ∧ wk ≠ wt ∧ H wt = none ∧ Same H H' ∧ H' wk = some (.lst []) ∧ H' wt = some (.lst [.ref p0]) ∧ H' p0 = some (.tup [.str "node", v]), ?_, ?_⟩
      · refine ⟨_, rfl, (by show 2 ≤ sizeLine; decide), fun p0 hp0 => ⟨(by show 1 ≤ sizeLine; decide), fun wt hwt => ?_⟩⟩
        have s1 := same_upd (o := .lst []) hwk
        have s2 := s1.trans (same_upd (o := .tup [.str "node", v]) hp0)
        have e1 : upd (upd H wk (.lst [])) p0 (.tup [.str "node", v]) wk = some (.lst []) := same_upd hp0 _ _ upd_same
        have s3 := same_upd (o := .lst [.ref p0]) hwt
        exact ⟨wt, p0, rfl, ne_of_none e1 hwt, same_none s2 hwt, s2.trans s3, s3 _ _ e1, upd_same, s3 _ _ upd_same⟩
      rintro σ0 H1 ⟨wt, p0, rfl, hkt, hwt, s1, L1, W1, P1⟩
      refine while_m (fun m σ H' => ∃ (ws wl : List V) (st dn : List (Str × Th)) (o3 o4 o5 : Option V), σ = [some v, some (.ref wk), some (.ref wt), o3, o4, o5] ∧ Same H H' ∧ H' wt = some (.lst ws) ∧ H' wk = some (.lst wl) ∧
          IsThs (off wk wt H') ws (prs st) ∧ IsThs (off wk wt H') wl (prs dn) ∧ dn ++ todoT st = stepsT t ∧ (∀ x ∈ st, StOk N x) ∧ m = (todoT st).length)
        (todoT [("node", t)]).length ⟨[.ref p0], [], [("node", t)], [], none, none, none, rfl, s1, W1, L1, ?_, .nil, ?_, ?_, rfl⟩ ?_ ?_
      · refine .cons (.tup (off_in P1 (ne_of P1 L1 (by intro q; cases q)) (ne_of P1 W1 (by intro q; cases q))) (.cons (.at (small_deed (.inl rfl))) (.cons (IsTh.kp (Kp.of (off_of s1 hwk hwt)) ht) .nil))) .nil
      · show todoT ([] ++ [(("node" : Str), t)]) = _
        rw [todo_snoc, todo1_node]
        show stepsT t ++ [] = _
        rw [List.append_nil]
      · intro x hx
        rw [List.mem_singleton] at hx
        subst hx
        exact ⟨.inl rfl, hok, hz⟩
      · rintro m σ H2 ⟨ws, wl, st, dn, o3, o4, o5, rfl, s2, W2, L2, hst, hdn, heq, hall, rfl⟩
        have hlt := len_steps t
        have hlen : dn.length + (todoT st).length = (stepsT t).length := by rw [← heq, List.length_append]
        have hstl := todo_len st hall
        refine ⟨_, rfl, _, .inl ⟨ws, SqL.of W2, rfl⟩, ?_⟩
        cases hws : ws.isEmpty with
        | true =>
          have e : ws = [] := List.isEmpty_iff.mp hws
          subst e
          refine iteF ?_
          have est : st = [] := by
            have := IsThs.len _ hst
            rw [List.length_map] at this
            exact List.eq_nil_of_length_eq_zero this.symm
          subst est
          have ed : dn = stepsT t := by rw [← heq]; show dn = dn ++ []; rw [List.append_nil]
          subst ed
          exact ⟨_, rfl, k wk wl H2 s2 hwk L2 (IsThs.kp (Kp.of off_sub) hdn)⟩
        | false =>
          have hne : ws ≠ [] := fun z => by rw [z] at hws; cases hws
          obtain ⟨ws', y, st', d, n, a, vn, rfl, rfl, hst', rfl, ha, hvn⟩ := prs_last hst hne
          refine iteT ?_
          refine ⟨_, rfl, .inl ⟨rfl, _, SqL.of W2⟩, wt, _, .ref a, rfl, rfl, W2, (by rw [List.length_append]; simp), ?_⟩
          rw [List.dropLast_concat]
          have hx := hall (d, n) (List.mem_append_right _ (List.mem_singleton.mpr rfl))
          have hall' : ∀ x ∈ st', StOk N x := fun x hx => hall x (List.mem_append_left _ hx)
          have hat : upd H2 wt (.lst ws') a = some (.tup [.str d, vn]) := by
            have h1 := off_sub _ _ ha
            rw [upd_ne (ne_of h1 W2 (by intro q; cases q))]
            exact h1
          refine ⟨a, [.str d, vn], rfl, SqT.of hat, rfl, _, _, rfl, _, _, rfl, rfl, ?_⟩
          refine ⟨fun σ' H' => ∃ (wl' : List V), σ' = [some v, some (.ref wk), some (.ref wt), some (.str d), some vn, o5] ∧ Same H H' ∧ H' wt = some (.lst ws') ∧ H' wk = some (.lst wl') ∧
            IsThs (off wk wt H') ws' (prs st') ∧ IsThs (off wk wt H') wl' (prs (dn ++ [(d, n)])) ∧ IsTh (off wk wt H') vn n, ?_, ?_⟩
          · have eo : off wk wt (upd H2 wt (.lst ws')) = off wk wt H2 := off_upd2
            have Lx : upd H2 wt (.lst ws') wk = some (.lst wl) := by rw [upd_ne hkt]; exact L2
            have Wx : upd H2 wt (.lst ws') wt = some (.lst ws') := upd_same
            have sx : Same H (upd H2 wt (.lst ws')) := fun b ob e => by rw [upd_ne (ne_of_none e hwt)]; exact s2 b ob e
            rw [← eo] at hst' hdn hvn
            generalize upd H2 wt (.lst ws') = H3 at Lx Wx sx hst' hdn hvn ⊢
            refine ⟨_, rfl, .inl ⟨rfl, _, SqL.of Lx⟩, _, rfl, _, rfl, (by show 2 ≤ sizeLine; decide), fun q hq => ?_⟩
            have sq := same_upd (o := .tup [.str d, vn]) hq
            have hqk : q ≠ wk := fun z => by rw [z, Lx] at hq; cases hq
            have hqt : q ≠ wt := fun z => by rw [z, Wx] at hq; cases hq
            have hll := IsThs.len _ hdn
            rw [List.length_map] at hll
            rw [List.length_append] at hstl
            simp only [List.length_singleton] at hstl
            refine ⟨wk, wl, .ref q, rfl, rfl, sq _ _ Lx, by omega, ?_⟩
            have so := off_same (a := wk) (b := wt) sq
            have eo2 : off wk wt (upd (upd H3 q (.tup [.str d, vn])) wk (.lst (wl ++ [.ref q]))) = off wk wt (upd H3 q (.tup [.str d, vn])) := off_upd1
            refine ⟨wl ++ [.ref q], rfl, ?_, ?_, upd_same, ?_, ?_, ?_⟩
            · intro b ob e
              rw [upd_ne (ne_of_none e hwk)]
              exact sq _ _ (sx _ _ e)
            · rw [upd_ne hkt.symm]
              exact sq _ _ Wx
            · rw [eo2]; exact IsThs.kp (Kp.of so) hst'
            · rw [eo2]
              unfold prs
              rw [List.map_append]
              refine IsThs.app _ (IsThs.kp (Kp.of so) hdn) (.cons (.tup (off_in upd_same hqk hqt) (.cons (.at (small_deed hx.1)) (.cons (IsTh.kp (Kp.of so) hvn) .nil))) .nil)
            · rw [eo2]; exact IsTh.kp (Kp.of so) hvn
          clear hst hdn ha hvn hat hst' W2 L2 s2
          rintro σ3 H3 ⟨wl', rfl, s3, W3, L3, hst3, hdn3, hvn3⟩
          refine ⟨_, rfl, rfl, _, rfl, ite2 (fun g => ?_) (fun g => ?_)⟩
          · have hd : d = "node" := by
              have g' := of_decide_eq_true g
              injection g'
            subst hd
            obtain ⟨_, hokn, hzn⟩ := hx
            obtain ⟨N', rfl⟩ : ∃ N', N = N' + 1 := by
              cases N with
              | zero => exact hokn.elim
              | succ N' => exact ⟨N', rfl⟩
            obtain ⟨w0, xs, rfl, hlet, hkid⟩ := hokn
            simp only [] at hzn
            have hxs : Th.sz (.tup (.at (.str w0) :: xs)) = 1 + (1 + szs xs) := by simp only [Th.sz, szs]
            have hxl := szs_len xs
            have hkl : (kidsL xs).length ≤ 100000 := by
              have h1 := List.length_filter_le isTup xs
              show (xs.filter isTup).length ≤ _
              omega
            have hkok : ∀ k ∈ kidsL xs, OkT N' k ∧ Th.sz k ≤ 100000 := fun k hk => by
              have hk' : k ∈ xs ∧ isTup k = true := List.mem_filter.mp hk
              have := sz_mem xs k hk'.1
              exact ⟨hkid k hk'.1 hk'.2, by omega⟩
            refine ⟨fun σ' H' => ∃ (l : Addr) (ys : List V), σ' = [some v, some (.ref wk), some (.ref wt), some (.str "node"), some vn, some (.ref l)] ∧ Same H3 H' ∧ H' l = some (.lst ys) ∧ H3 l = none ∧ IsThs (off wk wt H') ys (prs ((kidsL xs).map fun k => (("node" : Str), k))), ?_, ?_⟩
            · refine ⟨_, rfl, off wk wt H3, vn, .at (.str w0) :: xs, rfl, off_sub, hvn3, by rw [List.length_cons]; omega, fun p ps H4 s4 hp4 hps => ?_⟩
              rw [kids_cons] at hps
              have hpl := IsThs.len _ hps
              refine ⟨p, rfl, ⟨_, SqT.of hp4⟩, comp_tup (K := K) (a := p) (xs := ps) (fun i ys σc H' => ∃ o, σc = [o] ∧ Same H4 H' ∧ ys.length = i ∧ IsThs (off wk wt H') ys (prs (((kidsL xs).take i).map fun k => (("node" : Str), k))))
                ⟨none, rfl, Same.refl _, rfl, by rw [List.take_zero]; exact .nil⟩ (fun i ys σc H' ⟨_, _, e, _⟩ => SqT.of (e _ _ hp4)) ?_ ?_⟩
              · rintro i x ys σc H' hxi hi ⟨o, rfl, s5, hyl, hys⟩
                obtain ⟨kd, hk, h1⟩ := ths_get _ hps hxi
                refine ⟨by omega, _, rfl, (by show 2 ≤ sizeLine; decide), fun q hq => ?_⟩
                have sq := same_upd (o := .tup [.str "node", x]) hq
                have so := off_same (a := wk) (b := wt) sq
                have hqk : q ≠ wk := fun z => by rw [z, s5 _ _ (s4 _ _ L3)] at hq; cases hq
                have hqt : q ≠ wt := fun z => by rw [z, s5 _ _ (s4 _ _ W3)] at hq; cases hq
                refine nx hi ⟨_, rfl, s5.trans sq, by rw [List.length_append, hyl]; rfl, ?_⟩
                have e1 : ((kidsL xs).take (i + 1)) = (kidsL xs).take i ++ [kd] := by rw [List.take_add_one, hk]; rfl
                unfold prs
                rw [e1, List.map_append, List.map_append]
                refine IsThs.app _ (IsThs.kp (Kp.of so) hys) (.cons (.tup (off_in upd_same hqk hqt) (.cons (.at (small_deed (.inl rfl))) (.cons (IsTh.kp (Kp.of (off_same ((s4.trans s5).trans sq))) h1) .nil))) .nil)
              · rintro ys σc H' ⟨o, rfl, s5, hyl, hys⟩ l hl
                rw [List.take_of_length_le (by omega)] at hys
                have sl := same_upd (o := .lst ys) hl
                refine ⟨l, ys, rfl, (s4.trans s5).trans sl, upd_same, same_none (s4.trans s5) hl, IsThs.kp (Kp.of (off_same sl)) hys⟩
            rintro σ4 H4 ⟨l, ys, rfl, s4, hl4, hl3, hys4⟩
            have hlk : l ≠ wk := fun z => by rw [z, L3] at hl3; cases hl3
            have hlt' : l ≠ wt := fun z => by rw [z, W3] at hl3; cases hl3
            obtain ⟨an, vns, evn, han, hvns⟩ := th_tup hvn3
            cases hvns with
            | @cons vh vr _ _ c1 c2 =>
              obtain ⟨rfl, _⟩ := th_at c1
              have han3 := off_sub _ _ han
              refine ⟨fun σ' H' => ∃ (l : Addr) (ys : List V) (ps : List (Str × Th)), σ' = [some v, some (.ref wk), some (.ref wt), some (.str "node"), some vn, some (.ref l)] ∧ Same H3 H' ∧ H' l = some (.lst ys) ∧ IsThs (off wk wt H') ys (prs ps) ∧
                todoT (st' ++ [(("node" : Str), .tup (.at (.str w0) :: xs))]) = (("node" : Str), .tup (.at (.str w0) :: xs)) :: todoT (st' ++ ps.reverse) ∧ ∀ x ∈ ps, StOk (N' + 1) x, ?_, ?_⟩
              · have hself : StOk (N' + 1) ("opened", .tup (.at (.str w0) :: xs)) ∧ StOk (N' + 1) ("closed", .tup (.at (.str w0) :: xs)) :=
                  ⟨⟨.inr (.inl rfl), ⟨w0, xs, rfl, hlet, hkid⟩, hzn⟩, ⟨.inr (.inr rfl), ⟨w0, xs, rfl, hlet, hkid⟩, hzn⟩⟩
                refine ⟨_, rfl, an, _, 0, .str w0, evn, rfl, SqT.of (s4 _ _ han3), at_head _ _, rfl, _, rfl, ite2 (fun g2 => ?_) (fun g2 => ?_)⟩
                · have hw0 : w0 = "let" := by
                    have g' := of_decide_eq_true g2
                    injection g'
                  have h2 := hlet hw0
                  obtain ⟨k1, k2, hk12⟩ : ∃ k1 k2, kidsL xs = [k1, k2] := by
                    match hq : kidsL xs, h2 with
                    | [k1, k2], _ => exact ⟨k1, k2, rfl⟩
                  rw [hk12] at hys4 hkok
                  cases hys4 with
                  | @cons y1 yr _ _ d1 d2 =>
                    cases d2 with
                    | @cons y2 yr2 _ _ d3 d4 =>
                      cases d4
                      refine ⟨_, rfl, l, _, 0, y1, rfl, rfl, SqL.of hl4, at_head _ _, _, rfl, (by show 2 ≤ sizeLine; decide), fun q1 hq1 => ?_⟩
                      have sq1 := same_upd (o := .tup [.str "opened", vn]) hq1
                      refine ⟨_, rfl, l, _, 1, y2, rfl, rfl, SqL.of (sq1 _ _ hl4), at_next _ _ _, _, rfl, (by show 2 ≤ sizeLine; decide), fun q2 hq2 => ?_⟩
                      have sq2 := same_upd (o := .tup [.str "closed", vn]) hq2
                      refine ⟨(by show 4 ≤ sizeLine; decide), fun l2 hl2 => ?_⟩
                      have sq3 := same_upd (o := .lst [y1, .ref q1, y2, .ref q2]) hl2
                      have sA := (sq1.trans sq2).trans sq3
                      have hq1k : q1 ≠ wk := fun z => by rw [z, s4 _ _ L3] at hq1; cases hq1
                      have hq1t : q1 ≠ wt := fun z => by rw [z, s4 _ _ W3] at hq1; cases hq1
                      have hq2k : q2 ≠ wk := fun z => by rw [z, sq1 _ _ (s4 _ _ L3)] at hq2; cases hq2
                      have hq2t : q2 ≠ wt := fun z => by rw [z, sq1 _ _ (s4 _ _ W3)] at hq2; cases hq2
                      have oA := off_same (a := wk) (b := wt) sA
                      have hvA := IsTh.kp (Kp.of (off_same (a := wk) (b := wt) (s4.trans sA))) hvn3
                      refine ⟨l2, _, [("node", k1), ("opened", .tup (.at (.str w0) :: xs)), ("node", k2), ("closed", .tup (.at (.str w0) :: xs))], rfl, s4.trans sA, upd_same, ?_, ?_, ?_⟩
                      · exact .cons (IsTh.kp (Kp.of oA) d1) (.cons (.tup (off_in (sq3 _ _ (sq2 _ _ upd_same)) hq1k hq1t) (.cons (.at (small_deed (.inr (.inl rfl)))) (.cons hvA .nil))) (.cons (IsTh.kp (Kp.of oA) d3) (.cons (.tup (off_in (sq3 _ _ upd_same) hq2k hq2t) (.cons (.at (small_deed (.inr (.inr rfl)))) (.cons hvA .nil))) .nil)))
                      · exact todo_let (by rw [isLet_iff, hw0]; decide +kernel) (by rw [kids_cons, hk12])
                      · intro x hx
                        have o1 := hkok k1 (by simp)
                        have o2 := hkok k2 (by simp)
                        simp only [List.mem_cons, List.not_mem_nil, or_false] at hx
                        rcases hx with rfl | rfl | rfl | rfl
                        · exact ⟨.inl rfl, o1.1.up, o1.2⟩
                        · exact hself.1
                        · exact ⟨.inl rfl, o2.1.up, o2.2⟩
                        · exact hself.2
                · have hw0 : w0 ≠ "let" := fun z => g2 (by rw [z]; decide +kernel)
                  refine ⟨l, ys, (kidsL xs).map fun k => (("node" : Str), k), rfl, s4, hl4, hys4, ?_, ?_⟩
                  · have := todo_plain (st := st') (xs := .at (.str w0) :: xs) (by rw [isLet_iff]; exact decide_eq_false hw0)
                    rw [kids_cons] at this
                    exact this
                  · intro x hx
                    obtain ⟨kd, hk, rfl⟩ := List.mem_map.mp hx
                    exact ⟨.inl rfl, (hkok kd hk).1.up, (hkok kd hk).2⟩
              clear hys4 hl4 s4 hl3 hlk hlt'
              rintro σ5 H5 ⟨l, ys, ps, rfl, s5, hl5, hys5, htodo, hps⟩
              have hyl := IsThs.len _ hys5
              rw [List.length_map] at hyl
              have hnew : ∀ x ∈ st' ++ ps.reverse, StOk (N' + 1) x := fun x hx => by
                rcases List.mem_append.mp hx with z | z
                · exact hall' x z
                · exact hps x (List.mem_reverse.mp z)
              have hnl := todo_len _ hnew
              rw [htodo] at hlen
              rw [List.length_cons] at hlen
              rw [List.length_append, List.length_reverse] at hnl
              have hwl := IsThs.len _ hst3
              rw [List.length_map] at hwl
              refine ⟨_, rfl, .inl ⟨rfl, _, SqL.of (s5 _ _ W3)⟩, _, rfl, _, rfl, rfl, l, ys, rfl, SqL.of hl5, fun p hp => ?_⟩
              have sp5 := same_upd (o := .lst ys.reverse) hp
              refine ⟨wt, p, ws', ys.reverse, rfl, rfl, sp5 _ _ (s5 _ _ W3), upd_same, by rw [List.length_reverse]; omega, ?_⟩
              have eo : off wk wt (upd (upd H5 p (.lst ys.reverse)) wt (.lst (ws' ++ ys.reverse))) = off wk wt (upd H5 p (.lst ys.reverse)) := off_upd2
              refine ⟨(todoT (st' ++ ps.reverse)).length, by rw [htodo, List.length_cons]; omega, ws' ++ ys.reverse, wl', st' ++ ps.reverse, dn ++ [(("node" : Str), Th.tup (.at (.str w0) :: xs))], _, _, _, rfl, ?_, upd_same, ?_, ?_, ?_, ?_, hnew, rfl⟩
              · intro b ob e
                rw [upd_ne (ne_of_none e hwt)]
                exact sp5 _ _ (s5 _ _ (s3 _ _ e))
              · rw [upd_ne hkt]
                exact sp5 _ _ (s5 _ _ L3)
              · rw [eo]
                unfold prs
                rw [List.map_append, List.map_reverse]
                exact IsThs.app _ (IsThs.kp (Kp.of (off_same (s5.trans sp5))) hst3) (ths_rev _ (IsThs.kp (Kp.of (off_same sp5)) hys5))
              · rw [eo]
                exact IsThs.kp (Kp.of (off_same (s5.trans sp5))) hdn3
              · rw [← heq, htodo, List.append_assoc]
                rfl
          · have hd : d ≠ "node" := fun z => g (by rw [z]; decide +kernel)
            have e1 : todoT (st' ++ [(d, n)]) = (d, n) :: todoT st' := by
              rw [todo_snoc]
              unfold todo1
              rw [if_neg hd]
              rfl
            refine ⟨(todoT st').length, by rw [e1, List.length_cons]; omega, ws', wl', st', dn ++ [(d, n)], _, _, _, rfl, s3, W3, L3, hst3, hdn3, ?_, hall', rfl⟩
            rw [← heq, e1, List.append_assoc]
            rfl
      · rintro σ H1 Q1 Q2 hq ⟨u1, e1, b1, e2, q⟩
        exact ⟨u1, e1, b1, e2, hq _ _ q⟩
end
end K09

set_option Elab.async false
set_option linter.all false
set_option maxRecDepth 100000
set_option maxHeartbeats 4000000
namespace K09
open PySem L2
/-! the feed: its dict and its list of cells -/
def feedKV (l : Addr) (n : Nat) (z : Int) : List (Key × V) := [(Sum.inr "cells", .ref l), (Sum.inr "at", .int n), (Sum.inr "left", .int z)]
structure Feed (H : Hp) (d l : Addr) (ns : List Int) (n : Nat) : Prop where
  dc : ∃ z, H d = some (.dK (feedKV l n z))
  ls : H l = some (.lst (ns.map V.int))
  sz : ns.length ≤ 63
/-- all but the feed's dict stays -/
def But (d : Addr) (H H' : Hp) : Prop := ∀ b o, H b = some o → b ≠ d → H' b = some o
theorem But.trans {d : Addr} {H H1 H2 : Hp} (a : But d H H1) (b : But d H1 H2) : But d H H2 := fun c o e n => b c o (a c o e n) n
theorem But.of {d : Addr} {H H1 : Hp} (a : Same H H1) : But d H H1 := fun c o e _ => a c o e
theorem kv_cells (l : Addr) (n : Nat) (z : Int) : valV (feedKV l n z) (Sum.inr "cells") = some (.ref l) := by with_unfolding_all rfl
theorem kv_at (l : Addr) (n : Nat) (z : Int) : valV (feedKV l n z) (Sum.inr "at") = some (.int n) := by with_unfolding_all rfl
theorem kv_left (l : Addr) (n : Nat) (z : Int) : valV (feedKV l n z) (Sum.inr "left") = some (.int z) := by with_unfolding_all rfl
theorem put_at (l : Addr) (n : Nat) (z : Int) : putK (feedKV l n z) (Sum.inr "at") (.int ((n : Int) + 1)) = feedKV l (n + 1) z := by with_unfolding_all rfl
theorem put_left (l : Addr) (n : Nat) (z y : Int) : putK (feedKV l n z) (Sum.inr "left") (.int y) = feedKV l n y := by with_unfolding_all rfl

theorem get_cells {H : Hp} {d l : Addr} {n : Nat} {z : Int} (h : H d = some (.dK (feedKV l n z))) : DGet H d (.str "cells") (some (.ref l)) := by
  have := DGet.k (k := Sum.inr "cells") h; rw [kv_cells] at this; exact this
theorem get_at {H : Hp} {d l : Addr} {n : Nat} {z : Int} (h : H d = some (.dK (feedKV l n z))) : DGet H d (.str "at") (some (.int n)) := by
  have := DGet.k (k := Sum.inr "at") h; rw [kv_at] at this; exact this
theorem get_left {H : Hp} {d l : Addr} {n : Nat} {z : Int} (h : H d = some (.dK (feedKV l n z))) : DGet H d (.str "left") (some (.int z)) := by
  have := DGet.k (k := Sum.inr "left") h; rw [kv_left] at this; exact this
theorem set_at {H : Hp} {d l : Addr} {n : Nat} {z : Int} (h : H d = some (.dK (feedKV l n z))) : DPut H d (.str "at") (.int ((n : Int) + 1)) (upd H d (.dK (feedKV l (n + 1) z))) := by
  have := DPut.k (k := Sum.inr "at") (v := .int ((n : Int) + 1)) h (by show 3 < sizeLine; decide); rw [put_at] at this; exact this
theorem set_left {H : Hp} {d l : Addr} {n : Nat} {z y : Int} (h : H d = some (.dK (feedKV l n z))) : DPut H d (.str "left") (.int y) (upd H d (.dK (feedKV l n y))) := by
  have := DPut.k (k := Sum.inr "left") (v := .int y) h (by show 3 < sizeLine; decide); rw [put_left] at this; exact this
theorem Feed.ne {H : Hp} {d l : Addr} {ns : List Int} {n : Nat} (F : Feed H d l ns n) : l ≠ d := by
  obtain ⟨⟨z, h⟩, g, _⟩ := F
  exact ne_of g h (by intro q; cases q)
theorem Feed.but {H H' : Hp} {d l : Addr} {ns : List Int} {n m : Nat} {z : Int} (F : Feed H d l ns n) (b : But d H H') (h : H' d = some (.dK (feedKV l m z))) : Feed H' d l ns m := ⟨⟨z, h⟩, b l _ F.ls F.ne, F.sz⟩
theorem But.upd {d : Addr} {H : Hp} {o : HO} : But d H (upd H d o) := fun c u e n => by rw [upd_ne n]; exact e

def spFeed (K : PySem.W.Frag) : Sp := fun vs H Q _ => ∃ (a : Addr) (ns : List Int), vs = [.ref a] ∧ SqL K H a (ns.map V.int) ∧ ns.length ≤ 63 ∧ ∀ d l H', Feed H' d l ns 0 → H d = none → Same H H' → Q (.ref d) H'
def spDraw : Sp := fun vs H Q _ => ∃ (d l : Addr) (ns : List Int) (n : Nat) (m : Int), vs = [.ref d, .int m] ∧ Feed H d l ns n ∧ n ≤ 1000000000000 ∧ 0 < m ∧ m < 18446744073709551616 ∧
  ∀ r n' H', 0 ≤ r → r < m → n' ≤ n + 1 → Feed H' d l ns n' → But d H H' → Q (.int r) H'
theorem cut63 {ns : List Int} (h : ns.length ≤ 63) : cutV (ns.map V.int) none (some 63) = ns.map V.int := by
  have e1 : HT.sIx (ns.map V.int).length 0 none = 0 := rfl
  have e2 : HT.sIx (ns.map V.int).length (ns.map V.int).length (some 63) = min 63 (ns.map V.int).length := rfl
  unfold cutV
  rw [e1, e2, List.drop_zero, List.take_of_length_le]
  rw [List.length_map]; omega
theorem lo29 (x : Int) : -(2 ^ 64) < x % 2147483629 := by omega
theorem hi29 (x : Int) : x % 2147483629 < 2 ^ 64 := by omega
theorem flat_ints (ns : List Int) : (ns.map V.int).all flatV = true := by
  rw [List.all_map]; exact List.all_eq_true.mpr fun _ _ => rfl
theorem Feed.same {H H' : Hp} {d l : Addr} {ns : List Int} {n : Nat} (F : Feed H d l ns n) (s : Same H H') : Feed H' d l ns n := let ⟨⟨z, h⟩, g, q⟩ := F; ⟨⟨z, s _ _ h⟩, s _ _ g, q⟩
theorem small_len {xs : List V} (h : xs.length ≤ 1000) : xs.length ≤ sizeLine := Nat.le_trans h (by decide)
structure Txt0 (mg : Str → Option Value) : Prop where
  len : mg "len" = none
  list : mg "list" = none
  range : mg "range" = none
section
variable {P : Program} {w : World} {K : PySem.W.Frag} {mg : Str → Option Value} {base : Heap}
theorem scFeed : FnScope ["_law_script"] ["_law_script"] (defScope sFeed) := ⟨rfl, rfl, rfl, by decide +kernel, rfl, by decide +kernel, by decide +kernel⟩
theorem ok_feed {f : Addr} {fd : FuncData} (F : Fun K "_law_feed" "_law_feed" sFeed f fd) (T : Txt0 mg) : FnOk P w K mg base CX0 1 f fd ["_law_script"] (spFeed K) := by
  refine F.ok scFeed (fun vs H Q E h => ?_) (fun cdv A outer s H vs Q E hr h => ?_)
  · obtain ⟨a, ns, rfl, _⟩ := h
    rfl
  · obtain ⟨a, ns, rfl, hS, hl, k⟩ := h
    refine ⟨_, pss_one (ps_ret (pe_disp (pps_cons pe_str (pe_callTy call_list_of (by rfl) T.list (by rfl) (pa_cons (pe_slice sl_list (pv 0) po_none (po_some pe_int)) pa_nil)) (pps_cons pe_str pe_int (pps_cons pe_str pe_int pps_nil))) rfl rfl (by intro z; cases z) (by decide))), ?_⟩
    intro d hd
    refine ⟨_, rfl, _, rfl, a, _, rfl, (same_upd hd).seq hS, fun p hp => ?_⟩
    refine ⟨p, _, rfl, .inl (SqL.of upd_same), fun l hl' => ?_⟩
    have hdl : d ≠ l := ne_of_none (H := upd (upd H d (.dK [])) p (.lst (cutV (ns.map V.int) none (some 63)))) (by rw [upd_ne (ne_of_none upd_same hp)]; exact upd_same) hl'
    have hpd : p ≠ d := fun z => by rw [z, upd_same] at hp; cases hp
    refine ⟨by rw [upd_ne hdl, upd_ne hpd.symm]; exact upd_same, feedKV l 0 0, rfl, by show 3 ≤ 15; decide, ?_⟩
    have em : mergeK [] (feedKV l 0 0) = feedKV l 0 0 := by with_unfolding_all rfl
    rw [em]
    refine k d l _ ⟨⟨0, upd_same⟩, ?_, hl⟩ hd ?_
    · rw [upd_ne hdl.symm, upd_same, cut63 hl]
    · intro b o e
      have hb : (upd H d (.dK [])) b = some o := same_upd hd b o e
      have hb2 := same_upd (o := .lst (cutV (ns.map V.int) none (some 63))) hp b o hb
      rw [upd_ne (ne_of_none e hd)]
      exact same_upd hl' b o hb2
theorem scDraw : FnScope ["_law_feed_here", "_law_many", "_law_found", "_law_at", "_law_cell", "_law_number"] ["_law_feed_here", "_law_many"] (defScope sDraw) := ⟨rfl, rfl, rfl, by decide +kernel, rfl, by decide +kernel, by decide +kernel⟩
theorem ok_draw {f : Addr} {fd : FuncData} (F : Fun K "_law_draw" "_law_draw" sDraw f fd) (T : Txt0 mg) : FnOk P w K mg base CX0 1 f fd ["_law_feed_here", "_law_many"] spDraw := by
  refine F.ok scDraw (fun vs H Q E h => ?_) (fun cdv A outer s H vs Q E hr h => ?_)
  · obtain ⟨d, l, ns, n, m, rfl, _⟩ := h
    rfl
  · obtain ⟨d, l, ns, n, m, rfl, FD, hn, hm0, hm1, k⟩ := h
    have hu := hu_of hr
    have hu0 := hr.units0
    obtain ⟨⟨z, hd⟩, hls, hsz⟩ := id FD
    refine ⟨_, pss_cons (ps_if (pt_cmpR op_gt (pe_dget hu (pv 0) pe_str (fun _ _ => rfl)) pe_int (nomark _))
        (pss_cons (ps_set (i := 2) scDraw.nd rfl (Or.inl rfl) (pe_op op_mod (pe_dget hu (pv 0) pe_str (fun _ _ => rfl)) (pv 1))) <|
         pss_cons (ps_dput hu (pv 0) pe_str (pe_op op_fdivL (pe_dget hu (pv 0) pe_str (fun _ _ => rfl)) (pv 1)) rfl) <|
         pss_one (ps_ret (pv 2))) pss_nil) <|
      pss_cons (ps_set (i := 3) scDraw.nd rfl (Or.inl rfl) (pe_dget hu (pv 0) pe_str (fun _ _ => rfl))) <|
      pss_cons (ps_dput hu (pv 0) pe_str (pe_op op_add (pv 3) pe_int) rfl) <|
      pss_cons (ps_set (i := 4) scDraw.nd rfl (Or.inl rfl) (pe_op op_add (pe_op op_mul (pv 3) (pv 3)) pe_int)) <|
      pss_cut (ps_if (pt_cmpR (op_ne_list hu0) (pe_dget hu (pv 0) pe_str (fun _ _ => rfl)) (pe_lst pa_nil) (nomark _))
        (pss_one (ps_set (i := 4) scDraw.nd rfl (Or.inl rfl) (pe_ix ix_list (pe_dget hu (pv 0) pe_str (fun _ _ => rfl)) (pe_op op_mod (pv 3) (pe_callB call_len_seq (by rfl) T.len PySem.boot_len (pa_cons (pe_dget hu (pv 0) pe_str (fun _ _ => rfl)) pa_nil))) (fun _ _ => rfl)))) pss_nil) <|
      pss_cons (ps_if (pt_cmpR op_ge (pv 4) (pe_op op_pow pe_int pe_int) (nomark _))
        (pss_cons (ps_dput hu (pv 0) pe_str (pe_op op_fdivL (pv 4) (pv 1)) rfl) <| pss_one (ps_ret (pe_op op_mod (pv 4) (pv 1)))) pss_nil) <|
      pss_cons (ps_set (i := 5) scDraw.nd rfl (Or.inl rfl) (pe_op op_mod (pe_op op_mul (pe_op op_add (pe_op op_add (pe_op op_mod (pv 4) pe_int) (pe_op op_mul pe_int (pv 3))) pe_int) pe_int) pe_int)) <|
      pss_cons (ps_set (i := 5) scDraw.nd rfl (Or.inl rfl) (pe_op op_mod (pe_op op_add (pe_op op_add (pe_op op_mul (pv 5) (pv 5)) (pe_op op_mul pe_int (pv 3))) pe_int) pe_int)) <|
      pss_cons (ps_set (i := 5) scDraw.nd rfl (Or.inl rfl) (pe_op op_mod (pe_op op_add (pe_op op_mul (pv 5) pe_int) (pv 3)) pe_int)) <|
      pss_one (ps_ret (pe_op op_mod (pe_op op_fdivL (pe_op op_mod (pe_op op_mul (pv 5) (pv 5)) pe_int) pe_int) (pv 1))), ?_⟩
    refine ⟨_, rfl, d, .int z, rfl, get_left hd, _, _, rfl, rfl, _, rfl, ?_⟩
    refine ite2 (fun hz => ?_) (fun hz => ?_)
    · refine ⟨_, rfl, d, .int z, rfl, get_left hd, _, rfl, _, _, rfl, rfl, hm0, ?_⟩
      refine ⟨_, rfl, d, .int z, rfl, get_left hd, _, rfl, _, _, rfl, rfl, ⟨hm0, hm1⟩, _, rfl, d, _, rfl, set_left hd, _, rfl, ?_⟩
      exact k _ n _ (Int.emod_nonneg _ (by omega)) (Int.emod_lt_of_pos _ hm0) (Nat.le_succ _) (FD.but But.upd upd_same) But.upd
    · refine ⟨_, rfl, d, .int n, rfl, get_at hd, ?_⟩
      refine ⟨_, rfl, _, _, rfl, rfl, _, rfl, d, _, rfl, set_at hd, ?_⟩
      have hd1 : upd H d (.dK (feedKV l (n + 1) z)) d = some (.dK (feedKV l (n + 1) z)) := upd_same
      have F1 : Feed (upd H d (.dK (feedKV l (n + 1) z))) d l ns (n + 1) := FD.but But.upd upd_same
      have B1 : But d H (upd H d (.dK (feedKV l (n + 1) z))) := But.upd
      generalize upd H d (.dK (feedKV l (n + 1) z)) = H1 at hd1 F1 B1 ⊢
      have hls1 := F1.ls
      refine ⟨_, rfl, _, rfl, _, _, rfl, rfl, .inl ⟨by omega, by omega⟩, _, _, rfl, rfl, ?_⟩
      refine ⟨fun σ' H' => ∃ c o, σ' = [some (.ref d), some (.int m), o, some (.int n), some (.int c), none] ∧ Feed H' d l ns (n + 1) ∧ But d H H', ?_, ?_⟩
      · refine ⟨_, rfl, d, .ref l, rfl, get_cells hd1, Nat.zero_le _, fun e he => ⟨l, e, ns.map V.int, [], rfl, rfl, SqL.of (same_upd he _ _ hls1), SqL.of upd_same, flat_ints ns, rfl, _, rfl, ?_⟩⟩
        have F2 := F1.same (same_upd (o := .lst []) he)
        have B2 : But d H (upd H1 e (.lst [])) := B1.trans (But.of (same_upd he))
        obtain ⟨⟨z2, hd2⟩, hls2, _⟩ := id F2
        refine ite2 (fun hne => ?_) (fun hne => ?_)
        · have hpos : 0 < (ns.map V.int).length := by
            cases ns with
            | nil => exact absurd hne (by decide)
            | cons _ _ => exact Nat.succ_pos _
          obtain ⟨v, hv, hat⟩ := at_mod hpos (n : Int)
          obtain ⟨c, _, rfl⟩ := List.mem_map.mp hv
          refine ⟨_, rfl, d, .ref l, rfl, get_cells hd2, _, rfl, _, rfl, d, .ref l, rfl, get_cells hd2, l, ns.map V.int, rfl, .inl (SqL.of hls2), _, _, rfl, rfl, (by show (0 : Int) < ((ns.map V.int).length : Int); omega), l, ns.map V.int, _, .int c, rfl, rfl, SqL.of hls2, hat, ?_⟩
          exact ⟨c, none, rfl, F2, B2⟩
        · exact ⟨_, none, rfl, F2, B2⟩
      · rintro σ' H2 ⟨c, o, rfl, F2, B2⟩
        obtain ⟨⟨z2, hd2⟩, hls2, _⟩ := id F2
        refine ⟨_, rfl, _, _, rfl, rfl, ⟨by decide, by decide, by decide⟩, _, _, rfl, rfl, _, rfl, ?_⟩
        refine ite2 (fun hge => ?_) (fun hge => ?_)
        · refine ⟨_, rfl, _, rfl, _, _, rfl, rfl, ⟨hm0, hm1⟩, _, rfl, d, _, rfl, set_left hd2, _, rfl, _, rfl, _, _, rfl, rfl, hm0, ?_⟩
          exact k _ (n + 1) _ (Int.emod_nonneg _ (by omega)) (Int.emod_lt_of_pos _ hm0) (Nat.le_refl _) (F2.but But.upd upd_same) (B2.trans But.upd)
        · refine ⟨_, rfl, _, _, rfl, rfl, (by show (0 : Int) < 2147483647; decide), _, rfl, _, _, rfl, rfl, .inl ⟨by decide, by decide⟩, _, _, rfl, rfl, _, _, rfl, rfl, _, _, rfl, rfl, .inr ⟨by decide, by decide⟩, _, _, rfl, rfl, (by show (0 : Int) < 2147483629; decide), ?_⟩
          refine ⟨_, rfl, _, rfl, _, _, rfl, rfl, .inl ⟨lo29 _, hi29 _⟩, _, rfl, _, _, rfl, rfl, .inl ⟨by decide, by decide⟩, _, _, rfl, rfl, _, _, rfl, rfl, _, _, rfl, rfl, (by show (0 : Int) < 2147483647; decide), ?_⟩
          refine ⟨_, rfl, _, _, rfl, rfl, .inr ⟨by decide, by decide⟩, _, rfl, _, _, rfl, rfl, _, _, rfl, rfl, (by show (0 : Int) < 2147483629; decide), ?_⟩
          refine ⟨_, rfl, _, rfl, _, _, rfl, rfl, .inl ⟨lo29 _, hi29 _⟩, _, _, rfl, rfl, (by show (0 : Int) < 2147483587; decide), _, _, rfl, rfl, ⟨by decide, by decide⟩, _, rfl, _, _, rfl, rfl, hm0, ?_⟩
          exact k _ (n + 1) _ (Int.emod_nonneg _ (by omega)) (Int.emod_lt_of_pos _ hm0) (Nat.le_refl _) F2 B2
/-! a word spelled -/
end
end K09

set_option Elab.async false
set_option linter.all false
set_option maxRecDepth 100000
set_option maxHeartbeats 4000000
namespace K09
open PySem L2 Srt
/-- tuples and lists stay -/
def Kt (H H' : Hp) : Prop := ∀ a xs, (H a = some (.tup xs) → H' a = some (.tup xs)) ∧ (H a = some (.lst xs) → H' a = some (.lst xs))
theorem Kt.ext {H : Hp} {b : Addr} {φ : Heap → Prop} {o : HO} (h : H b = some (.ext φ)) : Kt H (upd H b o) := fun c xs => by
  refine ⟨fun e => ?_, fun e => ?_⟩
  · rw [upd_ne (ne_of e h (by intro q; cases q))]
    exact e
  · rw [upd_ne (ne_of e h (by intro q; cases q))]
    exact e
mutual
theorem th_kt {H H' : Hp} (k : Kt H H') : ∀ {v : V} {t : Th}, IsTh H v t → IsTh H' v t
  | _, _, .at f => .at f
  | _, _, .tup h r => .tup ((k _ _).1 h) (ths_kt k r)
  | _, _, .lst h r => .lst ((k _ _).2 h) (ths_kt k r)
theorem ths_kt {H H' : Hp} (k : Kt H H') : ∀ {vs : List V} {ts : List Th}, IsThs H vs ts → IsThs H' vs ts
  | _, _, .nil => .nil
  | _, _, .cons h r => .cons (th_kt k h) (ths_kt k r)
end
/-- a bare form: a let of two parts, an own of a number -/
def OwT : Nat → Th → Prop
  | 0, _ => False
  | n + 1, t => ∃ (w : Str) (ts : List Th), t = .tup (.at (.str w) :: ts) ∧ (w = "let" → ∃ k1 k2, ts = [k1, k2] ∧ isTup k1 = true ∧ isTup k2 = true) ∧ (w = "own" → ∃ i : Int, ts = [.at (.int i)] ∧ 0 ≤ i) ∧ ∀ x ∈ ts, isTup x = true → OwT n x
theorem OwT.up : ∀ (n : Nat) {t : Th}, OwT n t → OwT (n + 1) t := by
  intro n
  induction n with
  | zero => intro t h; exact h.elim
  | succ n ih =>
    intro t h
    obtain ⟨w, ts, e, h1, h2, h3⟩ := h
    exact ⟨w, ts, e, h1, h2, fun x hx ht => ih (h3 x hx ht)⟩
theorem OwT.le {n m : Nat} {t : Th} (h : OwT n t) (e : n ≤ m) : OwT m t := by
  induction e with
  | refl => exact h
  | step _ ih => exact OwT.up _ ih
theorem OwT.ok : ∀ (n : Nat) {t : Th}, OwT n t → OkT n t := by
  intro n
  induction n with
  | zero => intro t h; exact h.elim
  | succ n ih =>
    intro t h
    obtain ⟨w, ts, e, h1, h2, h3⟩ := h
    refine ⟨w, ts, e, fun z => ?_, fun x hx ht => ih (h3 x hx ht)⟩
    obtain ⟨k1, k2, rfl, e1, e2⟩ := h1 z
    unfold kidsL
    rw [List.filter_cons_of_pos e1, List.filter_cons_of_pos e2]
    rfl
/-- one less, what stays -/
def dn (l : List Int) : List Int := (l.filter fun i => decide (0 < i)).map (· - 1)
def dnI (l : Bool) (i : Nat) (ys : List Int) : List Int := if l = true ∧ i = 1 then dn ys else ys
def ownOf : Th → Option Int
  | .tup [.at (.str w), .at (.int i)] => if w = "own" then some i else none
  | _ => none
def ownL (t : Th) : List Int := (ownOf t).toList
mutual
/-- the owns that are astray -/
def asT : Th → List Int
  | .tup xs => ownL (.tup xs) ++ asI (isLetT xs) 0 xs
  | .at _ => []
  | .lst _ => []
def asI (l : Bool) : Nat → List Th → List Int
  | _, [] => []
  | i, x :: xs => if isTup x = true then dnI l i (asT x) ++ asI l (i + 1) xs else asI l i xs
end
theorem asI_plain : ∀ (xs : List Th) (i : Nat), asI false i xs = ((kidsL xs).map asT).flatten := by
  intro xs
  induction xs with
  | nil => intro i; simp [asI, kidsL]
  | cons x xs ih =>
    intro i
    rw [asI]
    unfold kidsL
    rw [List.filter_cons]
    split
    · rw [ih, List.map_cons, List.flatten_cons]
      rfl
    · rw [ih]
      rfl
theorem ownL_let {w : Str} {k1 k2 : Th} (h1 : isTup k1 = true) : ownL (.tup [.at (.str w), k1, k2]) = [] := by
  cases k1 with
  | tup xs => rfl
  | «at» v => cases h1
  | lst xs => cases h1
theorem asT_let {w : Str} {k1 k2 : Th} (hw : w = "let") (h1 : isTup k1 = true) (h2 : isTup k2 = true) : asT (.tup [.at (.str w), k1, k2]) = asT k1 ++ dn (asT k2) := by
  have e1 : isLetT [.at (.str w), k1, k2] = true := decide_eq_true hw
  have e2 := ownL_let (w := w) (k2 := k2) h1
  have e3 : isTup (.at (.str w)) = false := rfl
  rw [asT, e1, e2, List.nil_append, asI, e3, if_neg Bool.false_ne_true, asI, if_pos h1, asI, if_pos h2, asI, List.append_nil]
  rfl
theorem asT_plain {w : Str} {ts : List Th} (hw : w ≠ "let") : asT (.tup (.at (.str w) :: ts)) = ownL (.tup (.at (.str w) :: ts)) ++ ((kidsL ts).map asT).flatten := by
  have e1 : isLetT (.at (.str w) :: ts) = false := decide_eq_false hw
  rw [asT, e1, asI_plain]
  rfl
/-- a step of the walk: the level, what was met beyond it -/
def stepL (s : Int × List Int) (p : Str × Th) : Int × List Int :=
  if p.1 = "opened" then (s.1 + 1, s.2) else if p.1 = "node" then (s.1, s.2 ++ (match ownOf p.2 with | some i => if s.1 ≤ i then [i - s.1] else [] | none => [])) else (s.1 - 1, s.2)
def sh (L : Int) (l : List Int) : List Int := (l.filter fun i => decide (L ≤ i)).map (· - L)
theorem sh_app (L : Int) (a b : List Int) : sh L (a ++ b) = sh L a ++ sh L b := by
  unfold sh
  rw [List.filter_append, List.map_append]
theorem sh_dn {L : Int} (h : 0 ≤ L) : ∀ l : List Int, sh L (dn l) = sh (L + 1) l := by
  intro l
  induction l with
  | nil => rfl
  | cons a l ih =>
    unfold dn sh at *
    by_cases h1 : 0 < a
    · rw [List.filter_cons_of_pos (p := fun i => decide (0 < i)) (decide_eq_true h1), List.map_cons]
      by_cases h2 : L ≤ a - 1
      · rw [List.filter_cons_of_pos (p := fun i => decide (L ≤ i)) (decide_eq_true h2), List.filter_cons_of_pos (p := fun i => decide (L + 1 ≤ i)) (decide_eq_true (by omega)), List.map_cons, List.map_cons, ih]
        congr 1
        omega
      · rw [List.filter_cons_of_neg (p := fun i => decide (L ≤ i)) (by intro z; exact h2 (of_decide_eq_true z)), List.filter_cons_of_neg (p := fun i => decide (L + 1 ≤ i)) (by intro z; have := of_decide_eq_true z; omega), ih]
    · rw [List.filter_cons_of_neg (p := fun i => decide (0 < i)) (by intro z; exact h1 (of_decide_eq_true z)), List.filter_cons_of_neg (p := fun i => decide (L + 1 ≤ i)) (by intro z; have := of_decide_eq_true z; omega), ih]
theorem step_node (L : Int) (v : List Int) (t : Th) : stepL (L, v) ("node", t) = (L, v ++ sh L (ownL t)) := by
  have e1 : ¬ (("node" : Str) = "opened") := by decide +kernel
  unfold stepL
  rw [if_neg e1, if_pos rfl]
  unfold ownL
  cases h : ownOf t with
  | none => rfl
  | some i =>
    dsimp only
    by_cases hi : L ≤ i
    · rw [if_pos hi]
      show _ = (L, v ++ sh L [i])
      unfold sh
      rw [List.filter_cons_of_pos (p := fun i => decide (L ≤ i)) (decide_eq_true hi)]
      rfl
    · rw [if_neg hi]
      show _ = (L, v ++ sh L [i])
      unfold sh
      rw [List.filter_cons_of_neg (p := fun i => decide (L ≤ i)) (by intro z; exact hi (of_decide_eq_true z))]
      rfl
theorem run_t : ∀ (N : Nat) (t : Th) (L : Int) (v : List Int), OwT N t → 0 ≤ L → (stepsT t).foldl stepL (L, v) = (L, v ++ sh L (asT t)) := by
  intro N
  induction N with
  | zero => intro t L v h; exact h.elim
  | succ N ih =>
    intro t L v h hL
    obtain ⟨w, ts, rfl, h1, h2, h3⟩ := h
    by_cases hw : w = "let"
    · obtain ⟨k1, k2, rfl, e1, e2⟩ := h1 hw
      have hk : kidsL [.at (.str w), k1, k2] = [k1, k2] := by
        unfold kidsL
        rw [List.filter_cons_of_neg (by intro z; cases z), List.filter_cons_of_pos e1, List.filter_cons_of_pos e2]
        rfl
      rw [steps_let (show isLetT (.at (.str w) :: [k1, k2]) = true from decide_eq_true hw) hk, List.foldl_cons, List.foldl_append, step_node, ih k1 L _ (h3 k1 (by simp) e1) hL, List.foldl_cons, List.foldl_append]
      have e3 : stepL (L, v ++ sh L (ownL (.tup [.at (.str w), k1, k2])) ++ sh L (asT k1)) ("opened", .tup [.at (.str w), k1, k2]) = (L + 1, v ++ sh L (asT k1)) := by
        rw [ownL_let e1]
        unfold stepL
        rw [if_pos rfl]
        show (L + 1, v ++ [] ++ sh L (asT k1)) = _
        rw [List.append_nil]
      rw [e3, ih k2 (L + 1) _ (h3 k2 (by simp) e2) (by omega), asT_let hw e1 e2, sh_app, sh_dn hL, ← List.append_assoc]
      rw [List.foldl_cons, List.foldl_nil]
      have c1 : ¬ (("closed" : Str) = "opened") := by decide +kernel
      have c2 : ¬ (("closed" : Str) = "node") := by decide +kernel
      unfold stepL
      rw [if_neg c1, if_neg c2]
      show (L + 1 - 1, _) = _
      rw [(by omega : L + 1 - 1 = L)]
    · rw [steps_plain (show isLetT (.at (.str w) :: ts) = false from decide_eq_false hw), List.foldl_cons, step_node, asT_plain hw, sh_app, ← List.append_assoc]
      have hk : ∀ k ∈ kidsL (.at (.str w) :: ts), OwT N k := fun k hk => by
        have z := List.mem_filter.mp hk
        rcases List.mem_cons.mp z.1 with q | q
        · subst q; cases z.2
        · exact h3 k q z.2
      rw [kids_cons] at hk ⊢
      have go : ∀ (ks : List Th) (u : List Int), (∀ k ∈ ks, OwT N k) → (ks.map stepsT).flatten.foldl stepL (L, u) = (L, u ++ sh L (ks.map asT).flatten) := by
        intro ks
        induction ks with
        | nil => intro u _; show (L, u) = (L, u ++ []); rw [List.append_nil]
        | cons k ks ih2 =>
          intro u hu
          rw [List.map_cons, List.flatten_cons, List.foldl_append, ih k L u (hu k (List.mem_cons_self ..)) hL, ih2 _ fun x hx => hu x (List.mem_cons_of_mem _ hx), List.map_cons, List.flatten_cons, sh_app, List.append_assoc]
      exact go _ _ hk
theorem own_nn {N : Nat} {w : Str} {ts : List Th} (h2 : w = "own" → ∃ i : Int, ts = [.at (.int i)] ∧ 0 ≤ i) : (∀ i ∈ ownL (.tup (.at (.str w) :: ts)), 0 ≤ i) ∧ (ownL (.tup (.at (.str w) :: ts))).length ≤ 1 := by
  by_cases hw : w = "own"
  · obtain ⟨i, rfl, hi⟩ := h2 hw
    subst hw
    refine ⟨fun j hj => ?_, Nat.le_refl _⟩
    have e : ownL (.tup [.at (.str "own"), .at (.int i)]) = [i] := rfl
    rw [e, List.mem_singleton] at hj
    subst hj
    exact hi
  · have e : ownL (.tup (.at (.str w) :: ts)) = [] := by
      unfold ownL ownOf
      split
      · next w' i' e =>
        injection e with e
        injection e with e1 e2
        injection e1 with e1
        injection e1 with e1
        subst e1
        rw [if_neg hw]
        rfl
      · rfl
    rw [e]
    exact ⟨fun j hj => absurd hj (by simp), Nat.zero_le _⟩
theorem as_nn : ∀ (N : Nat) (t : Th), OwT N t → (∀ i ∈ asT t, 0 ≤ i) ∧ (asT t).length ≤ cnt t := by
  intro N
  induction N with
  | zero => intro t h; exact h.elim
  | succ N ih =>
    intro t h
    obtain ⟨w, ts, rfl, h1, h2, h3⟩ := h
    by_cases hw : w = "let"
    · obtain ⟨k1, k2, rfl, e1, e2⟩ := h1 hw
      have i1 := ih k1 (h3 k1 (by simp) e1)
      have i2 := ih k2 (h3 k2 (by simp) e2)
      rw [asT_let hw e1 e2]
      refine ⟨fun i hi => ?_, ?_⟩
      · rcases List.mem_append.mp hi with z | z
        · exact i1.1 i z
        · unfold dn at z
          obtain ⟨j, hj, rfl⟩ := List.mem_map.mp z
          have := of_decide_eq_true (List.mem_filter.mp hj).2
          omega
      · have z : (dn (asT k2)).length ≤ (asT k2).length := by
          unfold dn
          rw [List.length_map]
          exact List.length_filter_le _ _
        rw [List.length_append, cnt, cnts, cnts, cnts, cnts]
        have := i1.2
        have := i2.2
        omega
    · rw [asT_plain hw]
      have o := own_nn (N := N) h2
      have hk : ∀ k ∈ kidsL ts, OwT N k := fun k hk => by
        have z := List.mem_filter.mp hk
        exact h3 k z.1 z.2
      have go : ∀ ks : List Th, (∀ k ∈ ks, OwT N k) → (∀ i ∈ (ks.map asT).flatten, 0 ≤ i) ∧ (ks.map asT).flatten.length ≤ cnts ks := by
        intro ks
        induction ks with
        | nil => intro _; exact ⟨fun i hi => absurd hi (by simp), Nat.zero_le _⟩
        | cons k ks ih2 =>
          intro hu
          have j1 := ih k (hu k (List.mem_cons_self ..))
          have j2 := ih2 fun x hx => hu x (List.mem_cons_of_mem _ hx)
          rw [List.map_cons, List.flatten_cons]
          refine ⟨fun i hi => ?_, ?_⟩
          · rcases List.mem_append.mp hi with z | z
            · exact j1.1 i z
            · exact j2.1 i z
          · rw [List.length_append, cnts]
            have := j1.2
            have := j2.2
            omega
      have g := go _ hk
      refine ⟨fun i hi => ?_, ?_⟩
      · rcases List.mem_append.mp hi with z | z
        · exact o.1 i z
        · exact g.1 i z
      · have e : cnts (.at (.str w) :: ts) = cnts (kidsL ts) := by rw [cnts, cnts_kids ts, cnt, Nat.zero_add]
        rw [List.length_append, cnt, e]
        have := o.2
        have := g.2
        omega
theorem sh_zero : ∀ l : List Int, (∀ i ∈ l, 0 ≤ i) → sh 0 l = l := by
  intro l h
  unfold sh
  rw [List.filter_eq_self.mpr fun i hi => decide_eq_true (h i hi)]
  have e : (fun x : Int => x - 0) = id := by funext x; simp
  rw [e, List.map_id]
/-- the whole walk -/
theorem run_all {N : Nat} {t : Th} (h : OwT N t) : (stepsT t).foldl stepL (0, []) = (0, asT t) := by
  rw [run_t N t 0 [] h (Int.le_refl _), sh_zero _ (as_nn N t h).1, List.nil_append]
/-- sorted in one way only -/
theorem one_way {a b l : List Int} (ha : a.Perm l) (hb : b.Perm l) (sa : a.Pairwise (· ≤ ·)) (sb : b.Pairwise (· ≤ ·)) : a = b :=
  List.Perm.eq_of_pairwise (fun x y _ _ h1 h2 => Int.le_antisymm h1 h2) sa sb (ha.trans hb.symm)
end K09

set_option Elab.async false
set_option linter.all false
set_option maxRecDepth 100000
set_option maxHeartbeats 4000000
namespace K09
open PySem L2 Srt
theorem ownOf_no {w : Str} {ts : List Th} (hw : w ≠ "own") : ownOf (.tup (.at (.str w) :: ts)) = none := by
  unfold ownOf
  split
  · next w' i' e =>
    injection e with e
    injection e with e1 e2
    injection e1 with e1
    injection e1 with e1
    subst e1
    rw [if_neg hw]
  · rfl
theorem steps_ow : ∀ (N : Nat) (t : Th), OwT N t → ∀ x ∈ stepsT t, OwT N x.2 ∧ (x.1 = "node" ∨ x.1 = "opened" ∨ x.1 = "closed") := by
  intro N
  induction N with
  | zero => intro t h; exact h.elim
  | succ N ih =>
    intro t h x hx
    have h0 := h
    obtain ⟨w, ts, rfl, h1, h2, h3⟩ := h
    by_cases hw : w = "let"
    · obtain ⟨k1, k2, rfl, e1, e2⟩ := h1 hw
      have hk : kidsL [.at (.str w), k1, k2] = [k1, k2] := by
        unfold kidsL
        rw [List.filter_cons_of_neg (by intro z; cases z), List.filter_cons_of_pos e1, List.filter_cons_of_pos e2]
        rfl
      rw [steps_let (show isLetT (.at (.str w) :: [k1, k2]) = true from decide_eq_true hw) hk] at hx
      rcases List.mem_cons.mp hx with rfl | hx
      · exact ⟨h0, .inl rfl⟩
      rcases List.mem_append.mp hx with hx | hx
      · have z := ih k1 (h3 k1 (by simp) e1) x hx
        exact ⟨OwT.up _ z.1, z.2⟩
      rcases List.mem_cons.mp hx with rfl | hx
      · exact ⟨h0, .inr (.inl rfl)⟩
      rcases List.mem_append.mp hx with hx | hx
      · have z := ih k2 (h3 k2 (by simp) e2) x hx
        exact ⟨OwT.up _ z.1, z.2⟩
      · rw [List.mem_singleton.mp hx]
        exact ⟨h0, .inr (.inr rfl)⟩
    · rw [steps_plain (show isLetT (.at (.str w) :: ts) = false from decide_eq_false hw)] at hx
      rcases List.mem_cons.mp hx with rfl | hx
      · exact ⟨h0, .inl rfl⟩
      obtain ⟨l, hl, hxl⟩ := List.mem_flatten.mp hx
      obtain ⟨k, hk, rfl⟩ := List.mem_map.mp hl
      have q := List.mem_filter.mp hk
      rcases List.mem_cons.mp q.1 with z | z
      · subst z
        cases q.2
      · have y := ih k (h3 k z q.2) x hxl
        exact ⟨OwT.up _ y.1, y.2⟩
theorem step_len (s : Int × List Int) (p : Str × Th) : s.2.length ≤ (stepL s p).2.length := by
  unfold stepL
  split
  · exact Nat.le_refl _
  · split
    · rw [List.length_append]
      exact Nat.le_add_right _ _
    · exact Nat.le_refl _
theorem fold_len : ∀ (l : List (Str × Th)) (s : Int × List Int), s.2.length ≤ (l.foldl stepL s).2.length := by
  intro l
  induction l with
  | nil => intro s; exact Nat.le_refl _
  | cons p l ih =>
    intro s
    exact Nat.le_trans (step_len s p) (ih _)
theorem take_fold {l : List (Str × Th)} {i : Nat} {p : Str × Th} (h : l[i]? = some p) : (l.take (i + 1)).foldl stepL (0, []) = stepL ((l.take i).foldl stepL (0, [])) p := by
  rw [List.take_add_one, h, List.foldl_append]
  rfl
theorem part_len {N : Nat} {t : Th} (h : OwT N t) (i : Nat) {L : Int} {vs : List Int} (e : ((stepsT t).take i).foldl stepL (0, []) = (L, vs)) : vs.length ≤ cnt t := by
  have h1 := run_all h
  rw [← List.take_append_drop i (stepsT t), List.foldl_append, e] at h1
  have h2 := fold_len ((stepsT t).drop i) (L, vs)
  rw [h1] at h2
  exact Nat.le_trans h2 (as_nn N t h).2
structure TxtL (mg : Str → Option Value) : Prop where
  set : mg "set" = none
  srt : mg "sorted" = none
/-- sorted, each once -/
def Told (t : Th) (ns : List Int) : Prop := ns.Perm (ofL (asT t)) ∧ ns.Pairwise (· ≤ ·)
def spLoose (N : Nat) : Sp := fun vs H Q _ => ∃ (v : V) (t : Th), vs = [v] ∧ IsTh H v t ∧ OwT N t ∧ Th.sz t ≤ 100000 ∧ cnt t < 128 ∧
  ∀ (p : Addr) (ns : List Int) H', Same H H' → H' p = some (.tup (ns.map V.int)) → Told t ns → Q (.ref p) H'
section
variable {P : Program} {w : World} {K : PySem.W.Frag} {mg : Str → Option Value} {base : Heap}
theorem scLoose : FnScope ["b", "beyond", "level", "deed", "node"] ["b"] (defScope sLoose) := ⟨rfl, rfl, rfl, by decide +kernel, rfl, by decide +kernel, by decide +kernel⟩
theorem ok_loose {f fP fS : Addr} {fd dP dS : FuncData} (F : Fun K "loose" "loose" sLoose f fd) (T : TxtT mg) (TD : TxtD mg) (TL : TxtL mg) (KI : Kits K)
    (FP : Fun K "parts" "parts" sParts fP dP) (bP : Binds K dP ["e"] []) (mP : mg "parts" = some (.ref fP)) (FS : Fun K "steps" "steps" sSteps fS dS) (bS : Binds K dS ["tree"] []) (mS : mg "steps" = some (.ref fS)) (N : Nat) :
    FnOk P w K mg base CX0 3 f fd ["b"] (spLoose N) := by
  have GS : FnOk P w K mg base CX0 2 fS dS ["tree"] (spSteps N) := ok_steps FS T TD KI FP bP mP N
  obtain ⟨tn, hNode⟩ := TD.node
  obtain ⟨to, hOpen⟩ := TD.opened
  refine F.ok scLoose (fun vs H Q E h => ?_) (fun cdv A outer s H vs Q E hr h => ?_)
  · obtain ⟨v, t, rfl, _⟩ := h
    rfl
  · obtain ⟨v, t, rfl, ht, how, hz, hc, k⟩ := h
    have hr2 : Room 2 _ := hr.mono (by decide)
    refine' ⟨?tt, ?body, ?fin⟩
    case body =>
      refine' pss_cons ?s1 (pss_cons ?s2 (pss_cons ?s3 (pss_one ?s4)))
      case s1 => exact ps_set (i := 1) scLoose.nd rfl (Or.inl rfl) (pe_callTy0 call_set0 (by rfl) TL.set (by decide +kernel))
      case s2 => exact ps_set (i := 2) scLoose.nd rfl (Or.inl rfl) pe_int
      case s3 =>
        refine' ps_for PassesOwn.never rfl (pi_list (pe_call GS hr2 (by rfl) mS FS.kp bS .nil pass0 (pa_n (pv 0) pa_nil))) (pg_tup rfl (pgs_cons (pg_name (i := 3) scLoose.nd rfl (Or.inl rfl)) (pgs_cons (pg_name (i := 4) scLoose.nd rfl (Or.inl rfl)) pgs_nil))) (pss_one ?b)
        case b =>
          refine' ps_if ?c (pss_one ?e1) (pss_one ?e2)
          case c => exact pt_cmpR op_eq (pv 3) (pe_glob (v := .str "opened") (by rfl) hOpen ⟨to, rfl⟩) (nomark _)
          case e1 => exact ps_aug (i := 2) scLoose.nd rfl (Or.inl rfl) pe_int ip_add
          case e2 =>
            refine' ps_if ?c2 (pss_one ?e3) (pss_one ?e4)
            case c2 => exact pt_cmpR op_ne (pv 3) (pe_glob (v := .str "node") (by rfl) hNode ⟨tn, rfl⟩) (nomark _)
            case e3 => exact ps_aug (i := 2) scLoose.nd rfl (Or.inl rfl) pe_int ip_sub
            case e4 =>
              refine' ps_if ?c3 (pss_one ?e5) pss_nil
              case c3 => exact (pw_and (pt_cmpR op_eq (pe_ix ix_tup (pv 4) pe_int (fun _ _ => rfl)) pe_str (nomark _)) (pw_and1 (pt_cmpR op_ge (pe_ix ix_tup (pv 4) pe_int (fun _ _ => rfl)) (pv 2) (nomark _)))).pt
              case e5 => exact ps_expr (pe_sadd (pv 1) (pa_cons (pe_op op_sub (pe_ix ix_tup (pv 4) pe_int (fun _ _ => rfl)) (pv 2)) pa_nil))
      case s4 => exact ps_ret (pe_callTy call_tuple_of (by rfl) T.tup (by decide +kernel) (pa_cons (pe_callB (call_sorted_set rfl) (by rfl) TL.srt (by decide +kernel) (pa_n (pv 1) pa_nil)) pa_nil))
    case fin =>
      refine ⟨rfl, fun bs hbs => ?_⟩
      have sb := same_upd (o := setO P w bs []) hbs
      refine ⟨_, rfl, v, t, rfl, IsTh.kp (Kp.of sb) ht, OwT.ok N how, hz, fun wk ws H1 s1 hwk L1 hws => ?_⟩
      have B1 : H1 bs = some (setO P w bs (ofL [])) := s1 _ _ upd_same
      have hwl := IsThs.len _ hws
      rw [List.length_map] at hwl
      refine ⟨wk, rfl, ⟨_, SqL.of L1⟩, for_list (K := K) (a := wk) (xs := ws) (fun i σ H' => ∃ (L : Int) (vl : List Int) (o3 o4 : Option V), σ = [some v, some (.ref bs), some (.int L), o3, o4] ∧ ((stepsT t).take i).foldl stepL (0, []) = (L, vl) ∧ Same H H' ∧
          H' bs = some (setO P w bs (ofL vl)) ∧ H' wk = some (.lst ws) ∧ IsThs H' ws (prs (stepsT t)))
        ⟨0, [], none, none, rfl, rfl, sb.trans s1, B1, L1, hws⟩ (fun i σ H' _ ⟨_, _, _, _, _, _, _, _, e, _⟩ => SqL.of e) ?_ ?_⟩
      · rintro i x σ H2 hx ⟨L, vl, o3, o4, rfl, hfold, s2, B2, L2, hws2⟩
        obtain ⟨tx, htx, hx2⟩ := ths_get _ hws2 hx
        rw [List.getElem?_map] at htx
        obtain ⟨p, hp, rfl⟩ : ∃ p, (stepsT t)[i]? = some p ∧ pr p = tx := by
          cases e : (stepsT t)[i]? with
          | none => rw [e] at htx; cases htx
          | some p => rw [e] at htx; exact ⟨p, rfl, by simpa using htx⟩
        obtain ⟨d, n⟩ := p
        obtain ⟨hown, hdeed⟩ := steps_ow N t how _ (List.mem_of_getElem? hp)
        obtain ⟨a, vs2, rfl, ha, hvs2⟩ := th_tup hx2
        have hnext := take_fold hp
        rw [hfold] at hnext
        have hvlen := part_len how i hfold
        have hol := ofL_len vl
        cases hvs2 with
        | @cons v1 vr _ _ c1 c2 =>
          cases c2 with
          | @cons v2 vr2 _ _ c3 c4 =>
            cases c4
            obtain ⟨rfl, _⟩ := th_at c1
            refine ⟨a, [.str d, v2], rfl, SqT.of ha, rfl, _, _, rfl, _, _, rfl, rfl, ?_⟩
            refine ⟨_, rfl, rfl, _, rfl, ite2 (fun g => ?_) (fun g => ?_)⟩
            · have hd : d = "opened" := by
                have g' := of_decide_eq_true g
                injection g'
              refine ⟨_, rfl, _, _, rfl, rfl, L + 1, vl, _, _, rfl, ?_, s2, B2, L2, hws2⟩
              rw [hnext]
              unfold stepL
              rw [if_pos hd]
            · have hd : d ≠ "opened" := fun z => g (by rw [z]; decide +kernel)
              refine ⟨_, rfl, rfl, _, rfl, ite2 (fun g2 => ?_) (fun g2 => ?_)⟩
              · have hd2 : d ≠ "node" := fun z => by
                  rw [z] at g2
                  exact absurd g2 (by decide +kernel)
                refine ⟨_, rfl, _, _, rfl, rfl, L - 1, vl, _, _, rfl, ?_, s2, B2, L2, hws2⟩
                rw [hnext]
                unfold stepL
                rw [if_neg hd, if_neg hd2]
              · have hd2 : d = "node" := by
                  rcases hdeed with z | z | z
                  · exact z
                  · exact absurd z hd
                  · exfalso
                    refine g2 ?_
                    have z : d = "closed" := z
                    rw [z]
                    decide +kernel
                subst hd2
                obtain ⟨N', rfl⟩ : ∃ N', N = N' + 1 := by
                  cases N with
                  | zero => exact hown.elim
                  | succ N' => exact ⟨N', rfl⟩
                obtain ⟨w0, ts, rfl, h1, h2, h3⟩ := hown
                rw [step_node] at hnext
                obtain ⟨an, vns, rfl, han, hvns⟩ := th_tup c3
                cases hvns with
                | @cons vh vr' _ _ d1 d2 =>
                  obtain ⟨rfl, _⟩ := th_at d1
                  refine ⟨_, rfl, an, _, 0, .str w0, rfl, rfl, SqT.of han, at_head _ _, rfl, _, rfl, ite2 (fun g3 => ?_) (fun g3 => ?_)⟩
                  · have hw : w0 = "own" := by
                      have g' := of_decide_eq_true g3
                      injection g'
                    obtain ⟨i0, rfl, hi0⟩ := h2 hw
                    subst hw
                    cases d2 with
                    | @cons v3 vr3 _ _ f1 f2 =>
                      cases f2
                      obtain ⟨rfl, _⟩ := th_at f1
                      have eo : ownL (.tup [.at (.str "own"), .at (.int i0)]) = [i0] := rfl
                      rw [eo] at hnext
                      refine ⟨_, rfl, an, _, 1, .int i0, rfl, rfl, SqT.of han, at_next _ _ _, _, rfl, _, _, rfl, rfl, _, rfl, ite2 (fun g4 => ?_) (fun g4 => ?_)⟩
                      · have hle : L ≤ i0 := by
                          have := of_decide_eq_true g4
                          omega
                        refine ⟨_, rfl, bs, _, rfl, B2, _, rfl, an, _, 1, .int i0, rfl, rfl, SqT.of han, at_next _ _ _, _, rfl, _, _, rfl, rfl, _, _, rfl, B2, by omega, ?_⟩
                        have kt : Kt H2 (upd H2 bs (setO P w bs (addL (ofL vl) (i0 - L)))) := Kt.ext B2
                        refine ⟨L, vl ++ [i0 - L], _, _, rfl, ?_, fun c o e => ?_, ?_, (kt _ _).2 L2, ths_kt kt hws2⟩
                        · rw [hnext]
                          unfold sh
                          rw [List.filter_cons_of_pos (p := fun i => decide (L ≤ i)) (decide_eq_true hle)]
                          rfl
                        · rw [upd_ne (ne_of_none e hbs)]
                          exact s2 c o e
                        · rw [ofL_snoc]
                          exact upd_same
                      · refine ⟨L, vl, _, _, rfl, ?_, s2, B2, L2, hws2⟩
                        rw [hnext]
                        unfold sh
                        rw [List.filter_cons_of_neg (p := fun i => decide (L ≤ i)) (by intro z; exact g4 (decide_eq_true (by have := of_decide_eq_true z; omega)))]
                        show (L, vl ++ []) = _
                        rw [List.append_nil]
                  · have hw : w0 ≠ "own" := fun z => g3 (by rw [z]; decide +kernel)
                    refine iteF ⟨L, vl, _, _, rfl, ?_, s2, B2, L2, hws2⟩
                    rw [hnext]
                    unfold ownL
                    rw [ownOf_no hw]
                    show (L, vl ++ []) = _
                    rw [List.append_nil]
      · rintro σ H2 ⟨L, vl, o3, o4, rfl, hfold, s2, B2, L2, hws2⟩
        rw [List.take_of_length_le (by omega), run_all how] at hfold
        obtain ⟨rfl, rfl⟩ := Prod.mk.inj hfold
        have h1 := (as_nn N t how).2
        have h2 := ofL_len (asT t)
        refine ⟨_, rfl, bs, _, rfl, B2, by omega, fun ns q pm st hq => ?_⟩
        refine ⟨q, _, rfl, .inl ⟨SqL.of upd_same, fun p hp => ?_⟩⟩
        exact k p ns _ ((s2.trans (same_upd hq)).trans (same_upd hp)) upd_same ⟨pm, st⟩
end
end K09

set_option Elab.async false
set_option linter.all false
set_option maxRecDepth 100000
set_option maxHeartbeats 4000000
namespace K09
open PySem L2 Srt
theorem But.lst {d a : Addr} {H H' : Hp} {kvs : List (Key × V)} {xs : List V} (b : But d H H') (hd : H d = some (.dK kvs)) (h : H a = some (.lst xs)) : H' a = some (.lst xs) := b a _ h (ne_of h hd (by intro q; cases q))
theorem But.kp {d l : Addr} {ns : List Int} {n : Nat} {H H' : Hp} (b : But d H H') (F : Feed H d l ns n) : Kp H H' := by
  obtain ⟨⟨z, hd⟩, _, _⟩ := F
  intro a o h hk
  exact b a o h (fun q => by subst q; rw [hd] at h; cases h; exact hk _ rfl)
theorem Feed.lst {d l a : Addr} {ns : List Int} {n : Nat} {H H' : Hp} {xs : List V} (F : Feed H d l ns n) (b : But d H H') (h : H a = some (.lst xs)) : H' a = some (.lst xs) := by
  obtain ⟨⟨z, hd⟩, _, _⟩ := F
  exact b.lst hd h
def spValue : Sp := fun vs H Q _ => ∃ (d l : Addr) (ns : List Int) (n : Nat), vs = [.ref d] ∧ Feed H d l ns n ∧ n ≤ 900000000000 ∧
  ∀ (i : Int) n' H', 0 ≤ i → i ≤ 1000000000 → n' ≤ n + 3 → Feed H' d l ns n' → But d H H' → Q (.int i) H'
def spOwn : Sp := fun vs H Q _ => ∃ (d l : Addr) (ns : List Int) (n : Nat) (o : Int), vs = [.ref d, .int o] ∧ Feed H d l ns n ∧ n ≤ 900000000000 ∧ 0 ≤ o ∧
  ∀ (i : Int) n' H', 0 ≤ i → n' ≤ n + 3 → Feed H' d l ns n' → But d H H' → Q (.int i) H'
def spLawParts : Sp := fun vs H Q _ => ∃ (v : V) (w0 : Str) (ts : List Th), vs = [v] ∧ IsTh H v (.tup (.at (.str w0) :: ts)) ∧ ts.length ≤ 1000000 ∧
  ∀ (p : Addr) (ws : List V) H', Same H H' → H p = none → H' p = some (.lst ws) → IsThs H' ws (kidsL ts) → Q (.ref p) H'
section
variable {P : Program} {w : World} {K : PySem.W.Frag} {mg : Str → Option Value} {base : Heap}
/-- the drawing helper -/
structure Dr (K : PySem.W.Frag) (mg : Str → Option Value) (fD : Addr) (dD : FuncData) : Prop where
  T : Txt0 mg
  D : Fun K "_law_draw" "_law_draw" sDraw fD dD
  bD : Binds K dD ["_law_feed_here", "_law_many"] []
  mD : mg "_law_draw" = some (.ref fD)
theorem scLawValue : FnScope ["_law_feed_here", "_law_way"] ["_law_feed_here"] (defScope sLawValue) := ⟨rfl, rfl, rfl, by decide +kernel, rfl, by decide +kernel, by decide +kernel⟩
theorem ok_value {f fD : Addr} {fd dD : FuncData} (F : Fun K "_law_value" "_law_value" sLawValue f fd) (U : Dr K mg fD dD) : FnOk P w K mg base CX0 2 f fd ["_law_feed_here"] spValue := by
  have GD : FnOk P w K mg base CX0 1 fD dD ["_law_feed_here", "_law_many"] spDraw := ok_draw U.D U.T
  refine F.ok scLawValue (fun vs H Q E h => ?_) (fun cdv A outer s H vs Q E hr h => ?_)
  · obtain ⟨d, l, ns, n, rfl, _⟩ := h
    rfl
  · obtain ⟨d, l, ns, n, rfl, F0, hn, k⟩ := h
    have hr1 : Room 1 _ := hr.mono (by decide)
    refine' ⟨?tt, ?body, ?fin⟩
    case body =>
      refine' pss_cons ?s1 (pss_cons ?s2 (pss_cons ?s3 (pss_one ?s4)))
      case s1 => exact ps_set (i := 1) scLawValue.nd rfl (Or.inl rfl) (pe_call GD hr1 (by rfl) U.mD U.D.kp U.bD .nil pass0 (pa_n (pv 0) (pa_k pe_int pa_nil)))
      case s2 => exact ps_if (pt_cmpR op_eq (pv 1) pe_int (nomark _)) (pss_one (ps_ret (pe_op op_sub pe_int (pe_call GD hr1 (by rfl) U.mD U.D.kp U.bD .nil pass0 (pa_n (pv 0) (pa_k pe_int pa_nil)))))) pss_nil
      case s3 => exact ps_if (pt_cmpR op_eq (pv 1) pe_int (nomark _)) (pss_one (ps_ret (pe_op op_add (pe_op op_mul (pe_call GD hr1 (by rfl) U.mD U.D.kp U.bD .nil pass0 (pa_n (pv 0) (pa_k pe_int pa_nil))) pe_int) (pe_call GD hr1 (by rfl) U.mD U.D.kp U.bD .nil pass0 (pa_n (pv 0) (pa_k pe_int pa_nil)))))) pss_nil
      case s4 => exact ps_ret (pe_call GD hr1 (by rfl) U.mD U.D.kp U.bD .nil pass0 (pa_n (pv 0) (pa_cons (pe_op op_sub (pe_op op_mul pe_int (pv 1)) pe_int) pa_nil)))
    case fin =>
      refine ⟨_, rfl, d, l, ns, n, _, rfl, F0, by omega, by decide, by decide, fun way n1 H1 w0 w1 hn1 F1 b1 => ?_⟩
      refine ⟨_, rfl, rfl, _, rfl, ite2 (fun g => ?_) (fun g => ?_)⟩
      · refine ⟨_, rfl, d, l, ns, n1, _, rfl, F1, by omega, by decide, by decide, fun i n2 H2 i0 i1 hn2 F2 b2 => ⟨_, _, rfl, rfl, ?_⟩⟩
        exact k _ n2 H2 (by omega) (by omega) (by omega) F2 (b1.trans b2)
      · refine ⟨_, rfl, rfl, _, rfl, ite2 (fun g2 => ?_) (fun g2 => ?_)⟩
        · refine ⟨_, rfl, d, l, ns, n1, _, rfl, F1, by omega, by decide, by decide, fun i n2 H2 i0 i1 hn2 F2 b2 => ⟨_, _, rfl, rfl, .inr ⟨by decide, by decide⟩, ?_⟩⟩
          refine ⟨_, rfl, d, l, ns, n2, _, rfl, F2, by omega, by decide, by decide, fun j n3 H3 j0 j1 hn3 F3 b3 => ⟨_, _, rfl, rfl, ?_⟩⟩
          exact k _ n3 H3 (by omega) (by omega) (by omega) F3 ((b1.trans b2).trans b3)
        · have g' : way ≠ 0 := fun z => g (by rw [z]; decide)
          have g2' : way ≠ 1 := fun z => g2 (by rw [z]; decide)
          refine ⟨_, rfl, _, rfl, _, _, rfl, rfl, .inl ⟨by decide, by decide⟩, _, _, rfl, rfl, d, l, ns, n1, 3 * way - 3, rfl, F1, by omega, by omega, by omega, fun i n2 H2 i0 i1 hn2 F2 b2 => ?_⟩
          exact k i n2 H2 i0 (by omega) (by omega) F2 (b1.trans b2)
theorem scLawParts : FnScope ["_law_e"] ["_law_e"] (defScope sLawParts) := ⟨rfl, rfl, rfl, by decide +kernel, rfl, by decide +kernel, by decide +kernel⟩
theorem ok_lawparts {f : Addr} {fd : FuncData} (F : Fun K "_law_parts" "_law_parts" sLawParts f fd) (T : TxtT mg) (KI : Kits K) : FnOk P w K mg base CX0 1 f fd ["_law_e"] spLawParts := by
  refine F.ok scLawParts (fun vs H Q E h => ?_) (fun cdv A outer s H vs Q E hr h => ?_)
  · obtain ⟨v, w0, ts, rfl, _⟩ := h
    rfl
  · obtain ⟨v, w0, ts, rfl, hv, hz, k⟩ := h
    refine ⟨_, pss_one (ps_ret (pe_comp (N' := ["_law_part"]) (src := [none]) rfl (compScope_of (defScope sLawParts) rfl ["_law_e"] rfl (by decide +kernel)) (pi_tup (pe_slice sl_tupP (pv 0) (po_some pe_int) po_none))
      (fun cl C ex s0 H0 => ⟨pg_name (i := 0) (nd1 _) rfl (Or.inl rfl), pts_one (pt_val (pe_callB (id := "isinstance") (call_isinstK (K := K) rfl) (by rfl) T.isi (by decide +kernel) (pa_n (pv 0) (pa_n (pe_bltn (v := .ty "tuple") (by rfl) T.tup (by decide +kernel) rfl) pa_nil)))), pv 0⟩))), ?_⟩
    obtain ⟨a, vs, rfl, a1, a2⟩ := th_tup hv
    cases a2 with
    | @cons x xs _ _ c1 c2 =>
      refine ⟨_, rfl, _, rfl, a, x :: xs, rfl, a1, fun p H1 s1 hp => ?_⟩
      rw [cut1q] at hp
      have hl := IsThs.len _ c2
      refine ⟨p, rfl, ⟨_, SqT.of hp⟩, comp_tup (K := K) (a := p) (xs := xs) (fun i ys σc H' => ∃ o, σc = [o] ∧ IsThs H ys ((ts.take i).filter isTup) ∧ ys.length ≤ i ∧ H' = H1) ⟨none, rfl, by rw [List.take_zero]; exact .nil, Nat.le_refl _, rfl⟩ (fun i ys σc H' ⟨_, _, _, _, e⟩ => by rw [e]; exact SqT.of hp) ?_ ?_⟩
      · rintro i x ys σc H' hx hi ⟨o, rfl, hys, hyl, rfl⟩
        obtain ⟨t, ht, h1⟩ := ths_get _ c2 hx
        have hnext : (ts.take (i + 1)).filter isTup = (ts.take i).filter isTup ++ (if isTup t = true then [t] else []) := take_nextR _ ht
        refine ⟨by have : sizeLine = 16777216 := sizeLine_eq; omega, ?_⟩
        refine ⟨_, rfl, _, _, _, _, rfl, th_ty (IsTh.kp (Kp.of s1) h1), KI.tup h1, _, rfl, ite2 (fun g => ?_) (fun g => ?_)⟩
        · refine ⟨_, rfl, nx hi ⟨_, rfl, ?_, by rw [List.length_append]; show ys.length + 1 ≤ i + 1; omega, rfl⟩⟩
          rw [hnext, if_pos g]
          exact IsThs.app _ hys (.cons h1 .nil)
        · refine nx hi ⟨_, rfl, ?_, by omega, rfl⟩
          rw [hnext, if_neg g, List.append_nil]
          exact hys
      · rintro ys σc H' ⟨o, rfl, hys, hyl, rfl⟩ q hq
        rw [List.take_of_length_le (by omega)] at hys
        have sA := s1.trans (same_upd (o := .lst ys) hq)
        exact k q ys _ sA (same_none s1 hq) upd_same (IsThs.kp (Kp.of sA) hys)
theorem scOwn : FnScope ["_law_feed_here", "_law_over", "_law_way"] ["_law_feed_here", "_law_over"] (defScope sOwn) := ⟨rfl, rfl, rfl, by decide +kernel, rfl, by decide +kernel, by decide +kernel⟩
theorem ok_own {f fD : Addr} {fd dD : FuncData} (F : Fun K "_law_own" "_law_own" sOwn f fd) (U : Dr K mg fD dD) (hmax : mg "max" = none) : FnOk P w K mg base CX0 2 f fd ["_law_feed_here", "_law_over"] spOwn := by
  have GD : FnOk P w K mg base CX0 1 fD dD ["_law_feed_here", "_law_many"] spDraw := ok_draw U.D U.T
  refine F.ok scOwn (fun vs H Q E h => ?_) (fun cdv A outer s H vs Q E hr h => ?_)
  · obtain ⟨d, l, ns, n, o, rfl, _⟩ := h
    rfl
  · obtain ⟨d, l, ns, n, o, rfl, F0, hn, ho, k⟩ := h
    have hr1 : Room 1 _ := hr.mono (by decide)
    refine' ⟨?tt, ?body, ?fin⟩
    case body =>
      refine' pss_cons ?s1 (pss_cons ?s2 (pss_cons ?s3 (pss_one ?s4)))
      case s1 => exact ps_set (i := 2) scOwn.nd rfl (Or.inl rfl) (pe_call GD hr1 (by rfl) U.mD U.D.kp U.bD .nil pass0 (pa_n (pv 0) (pa_k pe_int pa_nil)))
      case s2 => exact ps_if (pt_cmpR op_eq (pv 2) pe_int (nomark _)) (pss_one (ps_ret (pe_op op_add (pe_op op_mul (pe_call GD hr1 (by rfl) U.mD U.D.kp U.bD .nil pass0 (pa_n (pv 0) (pa_cons (pe_op op_pow pe_int pe_int) pa_nil))) (pe_op op_pow pe_int pe_int)) (pe_call GD hr1 (by rfl) U.mD U.D.kp U.bD .nil pass0 (pa_n (pv 0) (pa_cons (pe_op op_pow pe_int pe_int) pa_nil)))))) pss_nil
      case s3 => exact ps_if (pt_cmpR op_lt (pv 2) pe_int (nomark _)) (pss_one (ps_ret (pe_op op_add (pv 1) (pe_call GD hr1 (by rfl) U.mD U.D.kp U.bD .nil pass0 (pa_n (pv 0) (pa_k pe_int pa_nil)))))) pss_nil
      case s4 => exact ps_ret (pe_callB (call_max2 rfl) (by rfl) hmax (by decide +kernel) (pa_k pe_int (pa_cons (pe_op op_sub (pe_op op_sub (pv 1) (pe_op op_mod (pv 2) pe_int)) (pe_call GD hr1 (by rfl) U.mD U.D.kp U.bD .nil pass0 (pa_n (pv 0) (pa_k pe_int pa_nil)))) pa_nil)))
    case fin =>
      refine ⟨_, rfl, d, l, ns, n, _, rfl, F0, by omega, by decide, by decide, fun way n1 H1 w0 w1 hn1 F1 b1 => ?_⟩
      refine ⟨_, rfl, rfl, _, rfl, ite2 (fun g => ?_) (fun g => ?_)⟩
      · refine ⟨_, rfl, _, _, rfl, rfl, ⟨by decide, by decide, by decide⟩, ?_⟩
        refine ⟨d, l, ns, n1, 1000000, rfl, F1, by omega, by decide, by decide, fun i n2 H2 i0 i1 hn2 F2 b2 => ?_⟩
        refine ⟨_, _, rfl, rfl, ⟨by decide, by decide, by decide⟩, ?_⟩
        refine ⟨_, _, rfl, rfl, .inl ⟨by omega, by omega⟩, ?_⟩
        refine ⟨_, rfl, _, _, rfl, rfl, ⟨by decide, by decide, by decide⟩, d, l, ns, n2, 1000000, rfl, F2, by omega, by decide, by decide, fun j n3 H3 j0 j1 hn3 F3 b3 => ⟨_, _, rfl, rfl, ?_⟩⟩
        refine k _ n3 H3 ?_ (by omega) F3 ((b1.trans b2).trans b3)
        have z : 0 ≤ i * ((10 : Int) ^ (53 : Int).toNat) := Int.mul_nonneg i0 (by decide)
        omega
      · refine ⟨_, rfl, _, _, rfl, rfl, _, rfl, ite2 (fun g2 => ?_) (fun g2 => ?_)⟩
        · refine ⟨_, rfl, _, rfl, d, l, ns, n1, _, rfl, F1, by omega, by decide, by decide, fun i n2 H2 i0 i1 hn2 F2 b2 => ⟨_, _, rfl, rfl, ?_⟩⟩
          exact k _ n2 H2 (by omega) (by omega) F2 (b1.trans b2)
        · refine ⟨_, rfl, _, rfl, _, _, rfl, rfl, (show (0 : Int) < 2 by decide), _, _, rfl, rfl, ?_⟩
          refine ⟨_, rfl, d, l, ns, n1, _, rfl, F1, by omega, by decide, by decide, fun i n2 H2 i0 i1 hn2 F2 b2 => ⟨_, _, rfl, rfl, _, _, rfl, ?_⟩⟩
          refine k _ n2 H2 ?_ (by omega) F2 (b1.trans b2)
          split <;> omega
end
end K09

set_option Elab.async false
set_option linter.all false
set_option maxRecDepth 100000
set_option maxHeartbeats 4000000
namespace K09
open PySem L2 Srt
def spAstray (N : Nat) : Sp := fun vs H Q _ => ∃ (v : V) (t : Th), vs = [v] ∧ IsTh H v t ∧ OwT N t ∧ Th.sz t ≤ 100000 ∧ cnt t ≤ 1000 ∧
  ∀ (p : Addr) H', Same H H' → H p = none → H' p = some (.lst ((asT t).map V.int)) → Q (.ref p) H'
/-- a list each -/
def Lsts (H : Hp) (as : List Addr) (ks : List Th) : Prop := as.length = ks.length ∧ ∀ (j : Nat) a k, as[j]? = some a → ks[j]? = some k → H a = some (.lst ((asT k).map V.int))
theorem Lsts.same {H H' : Hp} {as : List Addr} {ks : List Th} (h : Lsts H as ks) (s : Same H H') : Lsts H' as ks := ⟨h.1, fun j a k e1 e2 => s _ _ (h.2 j a k e1 e2)⟩
theorem Lsts.nil (H : Hp) : Lsts H [] [] := ⟨rfl, fun j a k e1 e2 => by cases e1⟩
theorem Lsts.snoc {H : Hp} {as : List Addr} {ks : List Th} {a : Addr} {k : Th} (h : Lsts H as ks) (e : H a = some (.lst ((asT k).map V.int))) : Lsts H (as ++ [a]) (ks ++ [k]) := by
  refine ⟨by rw [List.length_append, List.length_append, h.1]; rfl, fun j b q e1 e2 => ?_⟩
  by_cases hj : j < as.length
  · rw [List.getElem?_append_left hj] at e1
    rw [List.getElem?_append_left (by rw [← h.1]; exact hj)] at e2
    exact h.2 j b q e1 e2
  · rw [List.getElem?_append_right (by omega)] at e1
    rw [List.getElem?_append_right (by rw [← h.1]; omega)] at e2
    rw [← h.1] at e2
    obtain ⟨hj1, _⟩ := List.getElem?_eq_some_iff.mp e1
    have hj1 : j - as.length < 1 := hj1
    have z : j - as.length = 0 := by omega
    rw [z] at e1 e2
    cases e1
    cases e2
    exact e
theorem cnts_take : ∀ (ks : List Th) (i : Nat), cnts (ks.take i) ≤ cnts ks := by
  intro ks
  induction ks with
  | nil => intro i; rw [List.take_nil]; exact Nat.le_refl _
  | cons k ks ih =>
    intro i
    cases i with
    | zero => rw [List.take_zero]; exact Nat.zero_le _
    | succ i =>
      rw [List.take_succ_cons, cnts, cnts]
      have := ih i
      omega
theorem cnt_mem : ∀ (ks : List Th) (k : Th), k ∈ ks → cnt k ≤ cnts ks := by
  intro ks
  induction ks with
  | nil => intro k h; cases h
  | cons q ks ih =>
    intro k h
    rw [cnts]
    rcases List.mem_cons.mp h with z | z
    · subst z; omega
    · have := ih k z; omega
theorem fl_len {N : Nat} {ks : List Th} (h : ∀ k ∈ ks, OwT N k) : (ks.map asT).flatten.length ≤ cnts ks := by
  induction ks with
  | nil => exact Nat.zero_le _
  | cons k ks ih =>
    have h1 := (as_nn N k (h k (List.mem_cons_self ..))).2
    have h2 := ih fun x hx => h x (List.mem_cons_of_mem _ hx)
    rw [List.map_cons, List.flatten_cons, List.length_append, cnts]
    omega
theorem dn_next {l : List Int} {i : Nat} {x : Int} (h : l[i]? = some x) : dn (l.take (i + 1)) = dn (l.take i) ++ (if 0 < x then [x - 1] else []) := by
  unfold dn
  rw [List.take_add_one, h, List.filter_append, List.map_append]
  by_cases hx : 0 < x
  · rw [if_pos hx]
    show _ ++ List.map _ (List.filter (fun i => decide (0 < i)) [x]) = _
    rw [List.filter_cons_of_pos (p := fun i => decide (0 < i)) (decide_eq_true hx)]
    rfl
  · rw [if_neg hx]
    show _ ++ List.map _ (List.filter (fun i => decide (0 < i)) [x]) = _
    rw [List.filter_cons_of_neg (p := fun i => decide (0 < i)) (by intro z; exact hx (of_decide_eq_true z))]
    rfl
theorem dn_len (l : List Int) : (dn l).length ≤ l.length := by
  unfold dn
  rw [List.length_map]
  exact List.length_filter_le _ _
section
variable {P : Program} {w : World} {K : PySem.W.Frag} {mg : Str → Option Value} {base : Heap}
theorem scAstray : FnScope ["_law_b", "_law_inner", "_law_found", "_law_some"] ["_law_b"] (defScope sAstray) := ⟨rfl, rfl, rfl, by decide +kernel, rfl, by decide +kernel, by decide +kernel⟩
theorem ok_astray {f fP : Addr} {fd dP : FuncData} (F : Fun K "_law_astray" "_law_astray" sAstray f fd) (b : Binds K fd ["_law_b"] []) (m : mg "_law_astray" = some (.ref f)) (T : TxtT mg) (KI : Kits K)
    (FP : Fun K "_law_parts" "_law_parts" sLawParts fP dP) (bP : Binds K dP ["_law_e"] []) (mP : mg "_law_parts" = some (.ref fP)) : ∀ N, FnOk P w K mg base CX0 (N + 2) f fd ["_law_b"] (spAstray N) := by
  have GP : FnOk P w K mg base CX0 1 fP dP ["_law_e"] spLawParts := ok_lawparts FP T KI
  intro N
  induction N with
  | zero =>
    refine F.ok scAstray (fun vs H Q E h => ?_) (fun cdv A outer s H vs Q E hr h => ?_)
    · obtain ⟨v, t, rfl, _⟩ := h
      rfl
    · obtain ⟨v, t, rfl, _, h, _⟩ := h
      exact h.elim
  | succ N ih =>
    refine F.ok scAstray (fun vs H Q E h => ?_) (fun cdv A outer s H vs Q E hr h => ?_)
    · obtain ⟨v, t, rfl, _⟩ := h
      rfl
    · obtain ⟨v, t, rfl, ht, how, hz, hcn, k⟩ := h
      have hsz : sizeLine = 16777216 := sizeLine_eq
      have hr1 : Room 1 _ := hr.mono (by omega)
      refine' ⟨?tt, ?body, ?fin⟩
      case body =>
        refine' pss_cons ?s1 ?r1
        case s1 => exact ps_if (pt_cmpR op_eq (pe_ix ix_tup (pv 0) pe_int (fun _ _ => rfl)) pe_str (nomark _)) (pss_one (ps_ret (pe_lst (pa_cons (pe_ix ix_tup (pv 0) pe_int (fun _ _ => rfl)) pa_nil)))) pss_nil
        case r1 =>
          refine' pss_cut ?s2 ?r2
          case s2 =>
            refine' ps_setComp (i := 1) (N' := ["_law_one"]) (src := [none]) ?k1 ?k2 ?k3 ?k4 ?k5 ?k6 ?k7
            case k1 => rfl
            case k2 => exact scAstray.nd
            case k3 => rfl
            case k4 => exact Or.inl rfl
            case k5 => exact compScope_of (defScope sAstray) rfl ["_law_b", "_law_inner", "_law_found", "_law_some"] rfl (by decide +kernel)
            case k6 => exact pi_list (pe_call GP hr1 (by rfl) mP FP.kp bP .nil pass0 (pa_n (pv 0) pa_nil))
            case k7 => exact fun cl C ex s0 H0 => ⟨pg_name (i := 0) (nd1 _) rfl (Or.inl rfl), pts_nil, pe_call ih hr (by rfl) m F.kp b .nil pass0 (pa_n (pv 0) pa_nil)⟩
          case r2 =>
            refine' pss_cons ?s3 ?r3
            case s3 =>
              refine' ps_if ?c (pss_one ?e) pss_nil
              case c => exact pt_cmpR op_eq (pe_ix ix_tup (pv 0) pe_int (fun _ _ => rfl)) pe_str (nomark _)
              case e =>
                refine' ps_ret (pe_op op_cat (pe_ix ix_list (pv 1) pe_int (fun _ _ => rfl)) ?x)
                case x =>
                  refine' pe_comp (N' := ["_law_number"]) (src := [none]) ?k1 ?k5 ?k6 ?k7
                  case k1 => rfl
                  case k5 => exact compScope_of (defScope sAstray) rfl ["_law_b", "_law_inner", "_law_found", "_law_some"] rfl (by decide +kernel)
                  case k6 => exact pi_list (pe_ix ix_list (pv 1) pe_int (fun _ _ => rfl))
                  case k7 => exact fun cl C ex s0 H0 => ⟨pg_name (i := 0) (nd1 _) rfl (Or.inl rfl), pts_one (pt_cmpR op_gt (pv 0) pe_int (nomark _)), pe_op op_sub (pv 0) pe_int⟩
            case r3 =>
              refine' pss_cons ?s4 ?r4
              case s4 => exact ps_set (i := 2) scAstray.nd rfl (Or.inl rfl) (pe_lst pa_nil)
              case r4 =>
                refine' pss_cons ?s5 (pss_one ?s6)
                case s5 =>
                  refine' ps_for PassesOwn.never rfl (pi_list (pv 1)) (pg_name (i := 3) scAstray.nd rfl (Or.inl rfl)) (pss_one ?bb)
                  case bb => exact ps_set (i := 2) scAstray.nd rfl (Or.inl rfl) (pe_op op_cat (pv 2) (pv 3))
                case s6 => exact ps_ret (pv 2)
      case fin =>
        obtain ⟨w0, ts, rfl, h1, h2, h3⟩ := how
        have ht0 := ht
        obtain ⟨a, vs, rfl, ha, hvs⟩ := th_tup ht
        have hxs : Th.sz (.tup (.at (.str w0) :: ts)) = 1 + (1 + szs ts) := by simp only [Th.sz, szs]
        have hxl := szs_len ts
        have hkl : (kidsL ts).length ≤ 100000 := by
          have h1 := List.length_filter_le isTup ts
          show (ts.filter isTup).length ≤ _
          omega
        have hcs : cnts (kidsL ts) ≤ 999 := by
          have e : cnt (.tup (.at (.str w0) :: ts)) = 1 + cnts (kidsL ts) := by rw [cnt, cnts, cnts_kids ts, cnt, Nat.zero_add]
          omega
        have hkow : ∀ k ∈ kidsL ts, OwT N k := fun k hk => by
          have z := List.mem_filter.mp hk
          exact h3 k z.1 z.2
        have hfl := fl_len hkow
        cases hvs with
        | @cons vh vr _ _ c1 c2 =>
          obtain ⟨rfl, _⟩ := th_at c1
          refine ⟨_, rfl, a, _, 0, .str w0, rfl, rfl, SqT.of ha, at_head _ _, rfl, _, rfl, ite2 (fun g => ?_) (fun g => ?_)⟩
          · have hw : w0 = "own" := by
              have g' := of_decide_eq_true g
              injection g'
            obtain ⟨i0, rfl, hi0⟩ := h2 hw
            subst hw
            cases c2 with
            | @cons v3 vr3 _ _ f1 f2 =>
              cases f2
              obtain ⟨rfl, _⟩ := th_at f1
              refine ⟨_, rfl, a, _, 1, .int i0, rfl, rfl, SqT.of ha, at_next _ _ _, (by show 1 ≤ sizeLine; decide), fun l hl => ?_⟩
              refine k l _ (same_upd hl) hl ?_
              have e : asT (.tup [.at (.str "own"), .at (.int i0)]) = [i0] := by
                rw [asT_plain (by decide +kernel)]
                rfl
              rw [e]
              exact upd_same
          · have hw : w0 ≠ "own" := fun z => g (by rw [z]; decide +kernel)
            refine ⟨fun σ' H' => ∃ (inn : Addr) (as : List Addr), σ' = [some (.ref a), some (.ref inn), none, none] ∧ Same H H' ∧ H' inn = some (.lst (as.map V.ref)) ∧ Lsts H' as (kidsL ts), ?_, ?_⟩
            · refine ⟨_, rfl, .ref a, w0, ts, rfl, ht0, by omega, fun pl ws H1 s1 hpl L1 hws => ?_⟩
              have hwl := IsThs.len _ hws
              refine ⟨pl, rfl, ⟨_, SqL.of L1⟩, comp_list (K := K) (a := pl) (xs := ws) (fun i ys σc H' => ∃ (o : Option V) (as : List Addr), σc = [o] ∧ Same H1 H' ∧ ys = as.map V.ref ∧ Lsts H' as ((kidsL ts).take i))
                ⟨none, [], rfl, Same.refl _, rfl, by rw [List.take_zero]; exact Lsts.nil _⟩ (fun i ys σc H' ⟨_, _, _, e, _⟩ => SqL.of (e _ _ L1)) ?_ ?_⟩
              · rintro i x ys σc H' hx hi ⟨o, as, rfl, s2, rfl, hL⟩
                obtain ⟨kd, hk, hkt⟩ := ths_get _ hws hx
                have hkm := List.mem_of_getElem? hk
                have hks := sz_mem ts kd (List.mem_filter.mp hkm).1
                have hkc := cnt_mem _ _ hkm
                have hal := hL.1
                rw [List.length_take] at hal
                refine ⟨by rw [List.length_map]; omega, ?_⟩
                refine ⟨_, rfl, x, kd, rfl, IsTh.kp (Kp.of s2) hkt, hkow kd hkm, by omega, by omega, fun p H2 s3 hp L2 => ?_⟩
                refine nx hi ⟨_, as ++ [p], rfl, s2.trans s3, by rw [List.map_append]; rfl, ?_⟩
                rw [List.take_add_one, hk]
                exact (hL.same s3).snoc L2
              · rintro ys σc H' ⟨o, as, rfl, s2, rfl, hL⟩ l hl
                rw [List.take_of_length_le (by omega)] at hL
                have sl := same_upd (o := .lst (as.map V.ref)) hl
                exact ⟨l, as, rfl, (s1.trans s2).trans sl, upd_same, hL.same sl⟩
            rintro σ2 H2 ⟨inn, as, rfl, s2, I2, hL⟩
            have ha2 := s2 _ _ ha
            refine ⟨_, rfl, a, _, 0, .str w0, rfl, rfl, SqT.of ha2, at_head _ _, rfl, _, rfl, ite2 (fun g2 => ?_) (fun g2 => ?_)⟩
            · have hw2 : w0 = "let" := by
                have g' := of_decide_eq_true g2
                injection g'
              obtain ⟨k1, k2, rfl, e1, e2⟩ := h1 hw2
              have hk12 : kidsL [k1, k2] = [k1, k2] := by
                unfold kidsL
                rw [List.filter_cons_of_pos e1, List.filter_cons_of_pos e2]
                rfl
              rw [hk12] at hL hcs hkow
              obtain ⟨a1, a2, rfl⟩ : ∃ a1 a2, as = [a1, a2] := by
                match as, hL.1 with
                | [a1, a2], _ => exact ⟨a1, a2, rfl⟩
              have L1 := hL.2 0 a1 k1 rfl rfl
              have L2 := hL.2 1 a2 k2 rfl rfl
              have n1 := (as_nn N k1 (hkow k1 (by simp))).2
              have n2 := (as_nn N k2 (hkow k2 (by simp))).2
              have hc12 : cnt k1 + cnt k2 ≤ 999 := by
                rw [cnts, cnts, cnts] at hcs
                omega
              refine ⟨_, rfl, inn, _, 0, .ref a1, rfl, rfl, SqL.of I2, at_head _ _, ?_⟩
              refine ⟨_, rfl, inn, _, 1, .ref a2, rfl, rfl, SqL.of I2, at_next _ _ _, ?_⟩
              refine ⟨a2, rfl, ⟨_, SqL.of L2⟩, comp_list (K := K) (a := a2) (xs := (asT k2).map V.int) (fun i ys σc H' => ∃ (o : Option V), σc = [o] ∧ H' = H2 ∧ ys = (dn ((asT k2).take i)).map V.int)
                ⟨none, rfl, rfl, by rw [List.take_zero]; rfl⟩ (fun i ys σc H' ⟨_, _, e, _⟩ => by rw [e]; exact SqL.of L2) ?_ ?_⟩
              · rintro i x ys σc H' hx hi ⟨o, rfl, rfl, rfl⟩
                rw [List.getElem?_map] at hx
                obtain ⟨j, hj, rfl⟩ : ∃ j, (asT k2)[i]? = some j ∧ V.int j = x := by
                  cases e : (asT k2)[i]? with
                  | none => rw [e] at hx; cases hx
                  | some j => rw [e] at hx; exact ⟨j, rfl, by simpa using hx⟩
                have hnx := dn_next hj
                have hdl := dn_len ((asT k2).take i)
                rw [List.length_take] at hdl
                refine ⟨by rw [List.length_map]; omega, ?_⟩
                refine ⟨_, rfl, _, _, rfl, rfl, _, rfl, ite2 (fun g3 => ?_) (fun g3 => ?_)⟩
                · have hpos : 0 < j := by
                    have := of_decide_eq_true g3
                    omega
                  refine ⟨_, rfl, _, _, rfl, rfl, nx hi ⟨_, rfl, rfl, ?_⟩⟩
                  rw [hnx, if_pos hpos, List.map_append]
                  rfl
                · have hpos : ¬ 0 < j := fun z => g3 (decide_eq_true (by omega))
                  refine nx hi ⟨_, rfl, rfl, ?_⟩
                  rw [hnx, if_neg hpos, List.append_nil]
              · rintro ys σc H' ⟨o, rfl, rfl, rfl⟩ l hl
                rw [List.length_map, List.take_of_length_le (Nat.le_refl _)]
                have sl := same_upd (o := .lst ((dn (asT k2)).map V.int)) hl
                have hdl := dn_len (asT k2)
                refine ⟨a1, l, _, _, rfl, rfl, sl _ _ L1, upd_same, by rw [List.length_map, List.length_map]; omega, fun p hp => ?_⟩
                refine k p _ ((s2.trans sl).trans (same_upd hp)) (same_none (s2.trans sl) hp) ?_
                rw [asT_let hw2 e1 e2, List.map_append]
                exact upd_same
            · have hw2 : w0 ≠ "let" := fun z => g2 (by rw [z]; decide +kernel)
              refine ⟨Nat.zero_le _, fun fo hfo => ?_⟩
              have sf := same_upd (o := .lst []) hfo
              refine ⟨_, rfl, inn, rfl, ⟨_, SqL.of (sf _ _ I2)⟩, for_list (K := K) (a := inn) (xs := as.map V.ref) (fun i σ H' => ∃ (fa : Addr) (o3 : Option V), σ = [some (.ref a), some (.ref inn), some (.ref fa), o3] ∧ Same H2 H' ∧ H fa = none ∧ H' fa = some (.lst ((((kidsL ts).take i).map asT).flatten.map V.int)))
                ⟨fo, none, rfl, sf, same_none s2 hfo, by rw [List.take_zero]; exact upd_same⟩ (fun i σ H' _ ⟨_, _, _, e, _⟩ => SqL.of (e _ _ I2)) ?_ ?_⟩
              · rintro i x σ H3 hx ⟨fa, o3, rfl, s3, hfa, L3⟩
                rw [List.getElem?_map] at hx
                obtain ⟨ai, hai, rfl⟩ : ∃ ai, as[i]? = some ai ∧ V.ref ai = x := by
                  cases e : as[i]? with
                  | none => rw [e] at hx; cases hx
                  | some j => rw [e] at hx; exact ⟨j, rfl, by simpa using hx⟩
                have hil : i < (kidsL ts).length := by
                  have := (List.getElem?_eq_some_iff.mp hai).1
                  rw [hL.1] at this
                  exact this
                have hki : (kidsL ts)[i]? = some (kidsL ts)[i] := getElem?_pos (kidsL ts) i hil
                have Li := s3 _ _ (hL.2 i ai _ hai hki)
                have b1 := fl_len (fun k hk => hkow k (List.mem_of_mem_take hk)) (ks := (kidsL ts).take i)
                have b2 := cnts_take (kidsL ts) i
                have hmm : (kidsL ts)[i] ∈ kidsL ts := List.getElem_mem ..
                have b3 := (as_nn N _ (hkow _ hmm)).2
                have b4 := cnt_mem _ _ hmm
                refine ⟨_, rfl, _, rfl, fa, ai, _, _, rfl, rfl, L3, Li, by rw [List.length_map, List.length_map]; omega, fun p hp => ?_⟩
                refine ⟨p, _, rfl, s3.trans (same_upd hp), same_none (s2.trans s3) hp, ?_⟩
                rw [List.take_add_one, hki, List.map_append, List.flatten_append, List.map_append, upd_same]
                have e9 : (List.map asT (some (kidsL ts)[i]).toList).flatten = asT (kidsL ts)[i] := by
                  show asT (kidsL ts)[i] ++ [] = _
                  rw [List.append_nil]
                rw [e9]
              · rintro σ H3 ⟨fa, o3, rfl, s3, hfa, L3⟩
                rw [List.length_map, hL.1, List.take_of_length_le (Nat.le_refl _)] at L3
                refine ⟨_, rfl, k fa _ (s2.trans s3) hfa ?_⟩
                have e : ownL (.tup (.at (.str w0) :: ts)) = [] := by
                  unfold ownL
                  rw [ownOf_no hw]
                  rfl
                rw [asT_plain hw2, e, List.nil_append]
                exact L3
end
end K09

set_option Elab.async false
set_option linter.all false
set_option maxRecDepth 100000
set_option maxHeartbeats 4000000
namespace K09
open PySem L2 Srt
/-- all but these two stays -/
def But2 (d e : Addr) (H H' : Hp) : Prop := ∀ b o, H b = some o → b ≠ d → b ≠ e → H' b = some o
theorem But2.refl (d e : Addr) (H : Hp) : But2 d e H H := fun _ _ h _ _ => h
theorem But2.trans {d e : Addr} {H H1 H2 : Hp} (a : But2 d e H H1) (b : But2 d e H1 H2) : But2 d e H H2 := fun c o h n m => b c o (a c o h n m) n m
theorem But2.of {d e : Addr} {H H1 : Hp} (a : But d H H1) : But2 d e H H1 := fun c o h n _ => a c o h n
theorem But2.same {d e : Addr} {H H1 : Hp} (a : Same H H1) : But2 d e H H1 := fun c o h _ _ => a c o h
theorem But2.upd {d e : Addr} {H : Hp} {o : HO} : But2 d e H (upd H e o) := fun c u h _ n => by rw [upd_ne n]; exact h
/-! the world: what room there is -/
def roomKV (r : Int) : List (Key × V) := [(Sum.inr "room", .int r)]
theorem get_room {H : Hp} {wd : Addr} {r : Int} (h : H wd = some (.dK (roomKV r))) : DGet H wd (.str "room") (some (.int r)) := by
  have e : valV (roomKV r) (Sum.inr "room") = some (.int r) := by with_unfolding_all rfl
  have q := DGet.k (k := Sum.inr "room") h
  rw [e] at q
  exact q
theorem set_room {H : Hp} {wd : Addr} {r q : Int} (h : H wd = some (.dK (roomKV r))) : DPut H wd (.str "room") (.int q) (upd H wd (.dK (roomKV q))) := by
  have e : putK (roomKV r) (Sum.inr "room") (.int q) = roomKV q := by with_unfolding_all rfl
  have z := DPut.k (k := Sum.inr "room") (v := .int q) h (by show 1 < sizeLine; decide)
  rw [e] at z
  exact z
theorem room_ne {H : Hp} {d wd l : Addr} {ns : List Int} {n : Nat} {r : Int} (F : Feed H d l ns n) (W : H wd = some (.dK (roomKV r))) : wd ≠ d := by
  obtain ⟨⟨z, hd⟩, _, _⟩ := F
  refine ne_of W hd (fun q => ?_)
  injection q with q
  have h1 := congrArg List.length q
  cases h1
/-- what stands between two statements -/
structure Cw (H H' : Hp) (d l wd : Addr) (ns : List Int) (n : Nat) (r : Int) : Prop where
  F : Feed H' d l ns n
  W : H' wd = some (.dK (roomKV r))
  b2 : But2 d wd H H'
section
variable {H H1 H2 : Hp} {d l wd : Addr} {ns : List Int} {n n2 : Nat} {r r2 : Int}
theorem Cw.draw (C : Cw H H1 d l wd ns n r) (b : But d H1 H2) (F2 : Feed H2 d l ns n2) : Cw H H2 d l wd ns n2 r := ⟨F2, b wd _ C.W (room_ne C.F C.W), C.b2.trans (But2.of b)⟩
theorem Cw.same (C : Cw H H1 d l wd ns n r) (s : Same H1 H2) : Cw H H2 d l wd ns n r := ⟨C.F.same s, s _ _ C.W, C.b2.trans (But2.same s)⟩
theorem Cw.go (C : Cw H H1 d l wd ns n r) (b : But2 d wd H1 H2) (F2 : Feed H2 d l ns n2) (W2 : H2 wd = some (.dK (roomKV r2))) : Cw H H2 d l wd ns n2 r2 := ⟨F2, W2, C.b2.trans b⟩
theorem Cw.kp (C : Cw H H1 d l wd ns n r) (b : But2 d wd H1 H2) : Kp H1 H2 := by
  obtain ⟨⟨⟨z, hd⟩, _, _⟩, W, _⟩ := C
  intro a o h hk
  exact b a o h (fun q => by subst q; rw [hd] at h; cases h; exact hk _ rfl) (fun q => by subst q; rw [W] at h; cases h; exact hk _ rfl)
theorem Cw.room (C : Cw H H1 d l wd ns n r) : Cw H (upd H1 wd (.dK (roomKV r2))) d l wd ns n r2 := by
  have hne := room_ne C.F C.W
  obtain ⟨⟨⟨z, hd⟩, hl, hs⟩, W, b2⟩ := C
  refine ⟨⟨⟨z, by rw [upd_ne hne.symm]; exact hd⟩, ?_, hs⟩, upd_same, b2.trans But2.upd⟩
  rw [upd_ne (ne_of hl W (by intro q; cases q))]
  exact hl
end
def cD : Nat → Nat
  | 0 => 0
  | N + 1 => 20 + 6 * cD N
/-- a form of its own -/
def LeafO (t : Th) : Prop := OwT 1 t ∧ cnt t = 1 ∧ Th.sz t ≤ 3
theorem leaf0 {w : Str} (h1 : w ≠ "let") (h2 : w ≠ "own") : LeafO (.tup [.at (.str w)]) :=
  ⟨⟨w, [], rfl, fun z => absurd z h1, fun z => absurd z h2, fun x hx => by cases hx⟩, by simp [cnt, cnts], by simp [Th.sz, szs]⟩
theorem leaf1 {w : Str} {v : V} (h1 : w ≠ "let") (h2 : w ≠ "own") : LeafO (.tup [.at (.str w), .at v]) := by
  refine ⟨⟨w, [.at v], rfl, fun z => absurd z h1, fun z => absurd z h2, fun x hx h => ?_⟩, by simp [cnt, cnts], by simp [Th.sz, szs]⟩
  rw [List.mem_singleton] at hx
  subst hx
  cases h
theorem leafO {i : Int} (hi : 0 ≤ i) : LeafO (.tup [.at (.str "own"), .at (.int i)]) := by
  refine ⟨⟨"own", [.at (.int i)], rfl, fun z => absurd z (by decide +kernel), fun _ => ⟨i, rfl, hi⟩, fun x hx h => ?_⟩, by simp [cnt, cnts], by simp [Th.sz, szs]⟩
  rw [List.mem_singleton] at hx
  subst hx
  cases h
def spForm (N : Nat) : Sp := fun vs H Q _ => ∃ (d l wd : Addr) (ns : List Int) (n : Nat) (r b o : Int), vs = [.ref d, .ref wd, .int b, .int o] ∧ 1 ≤ N ∧ N ≤ 10 ∧ b ≤ N ∧ Feed H d l ns n ∧ n + cD N ≤ 600000000000 ∧ H wd = some (.dK (roomKV r)) ∧ -1000 ≤ r ∧ r ≤ 1000 ∧ 0 ≤ o ∧
  ∀ (v : V) (t : Th) (n' : Nat) (r' : Int) H', IsTh H' v t → OwT N t → (cnt t : Int) = r - r' → Th.sz t ≤ 3 * cnt t → (r - 1 ≤ r' ∨ 10 - 5 * N ≤ r') → n' ≤ n + cD N → Feed H' d l ns n' → H' wd = some (.dK (roomKV r')) → But2 d wd H H' → Q v H'
theorem ps_set9 {X : Cx} {i : Nat} {x : Str} {e : Expr} {te : TE} {pos pos' : Pos} (hN : X.N.Nodup) (hi : X.N[i]? = some x) (hx : Loc X.env.scope x) (he : PE X e te) (hs : swapsWith e (some (.Name x pos')) pos.line X.env = pure false) (hf : X.fn x = true ∨ X.env.scope.names.lookup x = some .local) :
    PS X (.Assign [.Name x pos'] e pos) (tAsg te (gName i)) := ps_set hN hi hx he hs hf
/-! a list of tuples of constants -/
def tupV : Expr → Option (List V)
  | .Tuple xs _ _ => xs.mapM constV
  | _ => none
def tupsV : Expr → Option (List (List V))
  | .List es _ => es.mapM tupV
  | _ => none
def tTups : List (List V) → TA
  | [] => fun _ H Q => Q [] H
  | vs :: r => fun σ H Q => ∀ p, H p = none → tTups r σ (upd H p (.tup vs)) fun us H' => Q (.ref p :: us) H'
theorem mapM_any {β : Type} {f : Expr → Option β} : ∀ {es : List Expr} {vs : List β}, es.mapM f = some vs → es.map f = vs.map some := by
  intro es
  induction es with
  | nil => intro vs h; cases h; rfl
  | cons e es ih =>
    intro vs h
    rw [List.mapM_cons] at h
    cases h1 : f e with
    | none => rw [h1] at h; cases h
    | some v =>
      rw [h1] at h
      cases h2 : es.mapM f with
      | none => rw [h2] at h; cases h
      | some us =>
        rw [h2] at h
        cases h
        rw [List.map_cons, List.map_cons, h1, ih h2]
theorem pa_tups {X : Cx} : ∀ {es : List Expr} {vss : List (List V)}, es.map tupV = vss.map some → (∀ vs ∈ vss, vs.length ≤ 1000) → PA X es (tTups vss)
  | [], [], _, _ => pa_nil
  | [], v :: vs, h, _ => by cases h
  | e :: es, [], h, _ => by cases h
  | e :: es, v :: vs, h, hz => by
    rw [List.map_cons, List.map_cons] at h
    injection h with h1 h2
    have ih := pa_tups (X := X) h2 fun x hx => hz x (List.mem_cons_of_mem _ hx)
    cases e with
    | Tuple xs j p =>
      have q := pa_t (j := j) (p := p) (pe_tup (X := X) (pa_consts (mapM_map (show xs.mapM constV = some v from h1)))) ih
      intro pos pins s σ H Q I hq
      exact q pos pins s σ H Q I ⟨small_len (hz v (List.mem_cons_self ..)), hq⟩
    | _ => cases h1
theorem pe_tups {X : Cx} {e : Expr} {vss : List (List V)} (h : (tupsV e = some vss ∧ ∀ vs ∈ vss, vs.length ≤ 1000)) : PE X e (tLst (tTups vss)) := by
  cases e with
  | List es p => exact pe_lst (pa_tups (mapM_any h.1) h.2)
  | _ => cases h.1
/-- tuples at addresses -/
def Tps (H : Hp) (as : List Addr) (vss : List (List V)) : Prop := as.length = vss.length ∧ ∀ (j : Nat) a vs, as[j]? = some a → vss[j]? = some vs → H a = some (.tup vs)
theorem tups_go {σ : St} : ∀ (vss : List (List V)) {H : Hp} {Q : List V → Hp → Prop}, (∀ as H', Same H H' → Tps H' as vss → Q (as.map V.ref) H') → tTups vss σ H Q
  | [], H, Q, h => h [] H (Same.refl _) ⟨rfl, fun j a vs e => by cases e⟩
  | vs :: r, H, Q, h => by
    intro p hp
    refine tups_go r fun as H' s hT => ?_
    refine h (p :: as) H' ((same_upd hp).trans s) ⟨by rw [List.length_cons, List.length_cons, hT.1], fun j a us e1 e2 => ?_⟩
    cases j with
    | zero =>
      cases e1
      cases e2
      exact s _ _ upd_same
    | succ j => exact hT.2 j a us e1 e2
def heads7 : List (List V) := [[.str "op", .str "<"], [.str "pick"], [.str "set", .str "x"], [.str "say"], [.str "do"], [.str "again", .int 0], [.str "call", .str "f"]]
theorem heads_ok : ∀ vs ∈ heads7, ∃ w0 rest, vs = .str w0 :: rest ∧ w0 ≠ "let" ∧ w0 ≠ "own" ∧ rest.length ≤ 1 ∧ ∀ v ∈ vs, smallV v = true := by
  intro vs hv
  simp only [heads7, List.mem_cons, List.not_mem_nil, or_false] at hv
  rcases hv with rfl | rfl | rfl | rfl | rfl | rfl | rfl
  · exact ⟨"op", [.str "<"], rfl, by decide +kernel, by decide +kernel, by decide, by decide +kernel⟩
  · exact ⟨"pick", [], rfl, by decide +kernel, by decide +kernel, by decide, by decide +kernel⟩
  · exact ⟨"set", [.str "x"], rfl, by decide +kernel, by decide +kernel, by decide, by decide +kernel⟩
  · exact ⟨"say", [], rfl, by decide +kernel, by decide +kernel, by decide, by decide +kernel⟩
  · exact ⟨"do", [], rfl, by decide +kernel, by decide +kernel, by decide, by decide +kernel⟩
  · exact ⟨"again", [.int 0], rfl, by decide +kernel, by decide +kernel, by decide, by decide +kernel⟩
  · exact ⟨"call", [.str "f"], rfl, by decide +kernel, by decide +kernel, by decide, by decide +kernel⟩
theorem ths_at' {H : Hp} : ∀ {vs : List V}, (∀ v ∈ vs, smallV v = true) → IsThs H vs (vs.map Th.at)
  | [], _ => .nil
  | v :: vs, h => .cons (.at (h v (List.mem_cons_self ..))) (ths_at' fun u hu => h u (List.mem_cons_of_mem _ hu))
theorem cnts_app : ∀ (a b : List Th), cnts (a ++ b) = cnts a + cnts b := by
  intro a
  induction a with
  | nil => intro b; rw [List.nil_append, cnts, Nat.zero_add]
  | cons x a ih => intro b; rw [List.cons_append, cnts, cnts, ih]; omega
theorem cnts_at : ∀ (vs : List V), cnts (vs.map Th.at) = 0 := by
  intro vs
  induction vs with
  | nil => rfl
  | cons v vs ih => rw [List.map_cons, cnts, ih, cnt]
theorem szs_at' : ∀ (vs : List V), szs (vs.map Th.at) = vs.length := by
  intro vs
  induction vs with
  | nil => rfl
  | cons v vs ih => rw [List.map_cons, szs, ih, Th.sz, List.length_cons]; omega
theorem ow_tup {n : Nat} {t : Th} (h : OwT n t) : isTup t = true := by
  cases n with
  | zero => exact h.elim
  | succ n => obtain ⟨w, ts, rfl, _⟩ := h; rfl
/-- a node out of a head and its parts -/
theorem node_ow {N : Nat} {w0 : Str} {rest : List V} {cs : List Th} (h1 : w0 ≠ "let") (h2 : w0 ≠ "own") (hc : ∀ c ∈ cs, OwT N c) : OwT (N + 1) (.tup ((V.str w0 :: rest).map Th.at ++ cs)) := by
  refine ⟨w0, rest.map Th.at ++ cs, rfl, fun z => absurd z h1, fun z => absurd z h2, fun x hx ht => ?_⟩
  rcases List.mem_append.mp hx with z | z
  · obtain ⟨v, _, rfl⟩ := List.mem_map.mp z
    cases ht
  · exact hc x z
theorem nd_form : (["_law_feed_here", "_law_world", "_law_below", "_law_over", "_law_k"] : List Str).Nodup := by decide +kernel
section
variable {P : Program} {w : World} {K : PySem.W.Frag} {mg : Str → Option Value} {base : Heap}
theorem scForm : FnScope ["_law_feed_here", "_law_world", "_law_below", "_law_over", "_law_way", "_law_some", "_law_first", "_law_heads", "_law_many"] ["_law_feed_here", "_law_world", "_law_below", "_law_over"] (defScope sForm) := ⟨rfl, rfl, rfl, by decide +kernel, rfl, by decide +kernel, by decide +kernel⟩
theorem ok_form {f fD fV fO : Addr} {fd dD dV dO : FuncData} (F : Fun K "_law_form" "_law_form" sForm f fd) (b : Binds K fd ["_law_feed_here", "_law_world", "_law_below", "_law_over"] []) (m : mg "_law_form" = some (.ref f)) (U : Dr K mg fD dD) (T : TxtT mg) (hmax : mg "max" = none)
    (FV : Fun K "_law_value" "_law_value" sLawValue fV dV) (bV : Binds K dV ["_law_feed_here"] []) (mV : mg "_law_value" = some (.ref fV)) (FO : Fun K "_law_own" "_law_own" sOwn fO dO) (bO : Binds K dO ["_law_feed_here", "_law_over"] []) (mO : mg "_law_own" = some (.ref fO)) :
    ∀ N, FnOk P w K mg base CX0 (N + 4) f fd ["_law_feed_here", "_law_world", "_law_below", "_law_over"] (spForm N) := by
  have GD : FnOk P w K mg base CX0 1 fD dD ["_law_feed_here", "_law_many"] spDraw := ok_draw U.D U.T
  have GV : FnOk P w K mg base CX0 2 fV dV ["_law_feed_here"] spValue := ok_value FV U
  have GO : FnOk P w K mg base CX0 2 fO dO ["_law_feed_here", "_law_over"] spOwn := ok_own FO U hmax
  intro N
  induction N with
  | zero =>
    refine F.ok scForm (fun vs H Q E h => ?_) (fun cdv A outer s H vs Q E hr h => ?_)
    · obtain ⟨d, l, wd, ns, n, r, b, o, rfl, _⟩ := h
      rfl
    · obtain ⟨d, l, wd, ns, n, r, b, o, rfl, h, _⟩ := h
      exact absurd h (by decide)
  | succ N ih =>
    refine F.ok scForm (fun vs H Q E h => ?_) (fun cdv A outer s H vs Q E hr h => ?_)
    · obtain ⟨d, l, wd, ns, n, r, b, o, rfl, _⟩ := h
      rfl
    · obtain ⟨d, l, wd, ns, n, r, bb, o, rfl, _, hN, hb, F0, hn, W0, hrl, hrh, ho, k⟩ := h
      have hsz : sizeLine = 16777216 := sizeLine_eq
      have hu := hu_of hr
      have hr1 : Room 1 _ := hr.mono (by omega)
      have hr2 : Room 2 _ := hr.mono (by omega)
      have ec : cD (N + 1) = 20 + 6 * cD N := rfl
      refine' ⟨?tt, ?body, ?fin⟩
      case body =>
        refine' pss_cut ?s1 ?r1
        case s1 => exact ps_dput hu (pv 1) pe_str (pe_op op_sub (pe_dget hu (pv 1) pe_str (fun _ _ => rfl)) pe_int) rfl
        case r1 =>
          refine' pss_cut ?s2 ?r2
          case s2 => exact ps_set (i := 4) scForm.nd rfl (Or.inl rfl) (pe_call GD hr1 (by rfl) U.mD U.D.kp U.bD .nil pass0 (pa_n (pv 0) (pa_k pe_int pa_nil)))
          case r2 =>
            refine' pss_cons ?s3 ?r3
            case s3 =>
              refine' ps_if ?c (pss_cut ?e1 (pss_one ?e2)) pss_nil
              case c => exact (pw_or (pt_cmpR op_lt (pv 2) pe_int (nomark _)) (pw_or (pt_cmpR op_lt (pe_dget hu (pv 1) pe_str (fun _ _ => rfl)) pe_int (nomark _)) (pw_or1 (pt_cmpR op_lt (pv 4) pe_int (nomark _))))).pt
              case e1 =>
                refine' ps_set9 (i := 5) ?ha ?hb ?hc ?hd ?he ?hf
                case ha => exact scForm.nd
                case hb => exact rfl
                case hc => exact (Or.inl rfl)
                case he => exact rfl
                case hf => exact (.inr rfl)
                case hd =>
                  refine' pe_lst ?q0
                  case q0 =>
                    refine' pa_t ?p1 ?q1
                    case p1 =>
                      refine' pe_tup ?t0
                      case t0 =>
                        refine' pa_k ?u1 ?t1
                        case u1 => exact pe_str
                        case t1 =>
                          refine' pa_c ?u2 ?t2
                          case u2 => exact pe_call GO hr2 (by rfl) mO FO.kp bO .nil pass0 (pa_n (pv 0) (pa_n (pv 3) pa_nil))
                          case t2 => exact pa_nil
                    case q1 =>
                      refine' pa_t ?p2 ?q2
                      case p2 =>
                        refine' pe_tup ?t0
                        case t0 =>
                          refine' pa_k ?u1 ?t1
                          case u1 => exact pe_str
                          case t1 =>
                            refine' pa_c ?u2 ?t2
                            case u2 => exact pe_call GO hr2 (by rfl) mO FO.kp bO .nil pass0 (pa_n (pv 0) (pa_n (pv 3) pa_nil))
                            case t2 => exact pa_nil
                      case q2 =>
                        refine' pa_t ?p3 ?q3
                        case p3 =>
                          refine' pe_tup ?t0
                          case t0 =>
                            refine' pa_k ?u1 ?t1
                            case u1 => exact pe_str
                            case t1 =>
                              refine' pa_c ?u2 ?t2
                              case u2 => exact pe_call GD hr1 (by rfl) U.mD U.D.kp U.bD .nil pass0 (pa_n (pv 0) (pa_k pe_int pa_nil))
                              case t2 => exact pa_nil
                        case q3 => exact pa_nil
              case e2 =>
                refine' ps_ret ?z
                case z =>
                  refine' pe_ix ix_list ?l ?i (fun _ _ => rfl)
                  case i => exact pe_call GD hr1 (by rfl) U.mD U.D.kp U.bD .nil pass0 (pa_n (pv 0) (pa_k pe_int pa_nil))
                  case l =>
                    refine' pe_op op_cat (pv 5) ?ll
                    case ll =>
                      refine' pe_lst ?q0
                      case q0 =>
                        refine' pa_t ?p1 ?q1
                        case p1 =>
                          refine' pe_tup ?t0
                          case t0 =>
                            refine' pa_k ?u1 ?t1
                            case u1 => exact pe_str
                            case t1 =>
                              refine' pa_k ?u2 ?t2
                              case u2 => exact pe_str
                              case t2 => exact pa_nil
                        case q1 =>
                          refine' pa_t ?p2 ?q2
                          case p2 =>
                            refine' pe_tup ?t0
                            case t0 =>
                              refine' pa_k ?u1 ?t1
                              case u1 => exact pe_str
                              case t1 => exact pa_nil
                          case q2 =>
                            refine' pa_t ?p3 ?q3
                            case p3 =>
                              refine' pe_tup ?t0
                              case t0 =>
                                refine' pa_k ?u1 ?t1
                                case u1 => exact pe_str
                                case t1 =>
                                  refine' pa_c ?u2 ?t2
                                  case u2 => exact pe_call GV hr2 (by rfl) mV FV.kp bV .nil pass0 (pa_n (pv 0) pa_nil)
                                  case t2 => exact pa_nil
                            case q3 => exact pa_nil
            case r3 =>
              refine' pss_cons ?s4 ?r4
              case s4 =>
                refine' ps_if ?c (pss_cons ?e1 (pss_one ?e2)) pss_nil
                case c => exact pt_cmpR op_lt (pv 4) pe_int (nomark _)
                case e1 => exact ps_set (i := 6) scForm.nd rfl (Or.inl rfl) (pe_call ih hr (by rfl) m F.kp b .nil pass0 (pa_n (pv 0) (pa_n (pv 1) (pa_cons (pe_op op_sub (pv 2) pe_int) (pa_n (pv 3) pa_nil)))))
                case e2 => exact ps_ret (pe_tup (pa_k pe_str (pa_n (pv 6) (pa_c (pe_call ih hr (by rfl) m F.kp b .nil pass0 (pa_n (pv 0) (pa_n (pv 1) (pa_cons (pe_op op_sub (pv 2) pe_int) (pa_cons (pe_op op_add (pv 3) pe_int) pa_nil))))) pa_nil))))
              case r4 =>
                refine' pss_cut ?s5 ?r5
                case s5 =>
                  refine' ps_set9 (i := 7) ?ha ?hb ?hc ?hd ?he ?hf
                  case ha => exact scForm.nd
                  case hb => exact rfl
                  case hc => exact (Or.inl rfl)
                  case he => exact rfl
                  case hf => exact (.inr rfl)
                  case hd =>
                    refine' @pe_tups ((cxOf CX0 P w K mg base ["_law_feed_here", "_law_world", "_law_below", "_law_over", "_law_way", "_law_some", "_law_first", "_law_heads", "_law_many"] "_law_form" (defScope sForm) f cdv A outer s H E).nox) _ heads7 ?q
                    case q => decide +kernel
                case r5 =>
                  refine' pss_cut ?s6 (pss_one ?s7)
                  case s6 =>
                    refine' ps_set9 (i := 8) ?ha ?hb ?hc ?hd ?he ?hf
                    case ha => exact scForm.nd
                    case hb => exact rfl
                    case hc => exact (Or.inl rfl)
                    case he => exact rfl
                    case hf => exact (.inr rfl)
                    case hd =>
                      refine' pe_ix ix_list ?l (pe_op op_sub (pv 4) pe_int) (fun _ _ => rfl)
                      case l =>
                        refine' pe_lst ?q0
                        case q0 =>
                          refine' pa_k ?p1 ?q1
                          case p1 =>
                            exact pe_int
                          case q1 =>
                            refine' pa_k ?p2 ?q2
                            case p2 =>
                              exact pe_int
                            case q2 =>
                              refine' pa_k ?p3 ?q3
                              case p3 =>
                                exact pe_int
                              case q3 =>
                                refine' pa_k ?p4 ?q4
                                case p4 =>
                                  exact pe_int
                                case q4 =>
                                  refine' pa_cons ?p5 ?q5
                                  case p5 =>
                                    refine' pe_op op_add pe_int ?dd
                                    case dd => exact pe_call GD hr1 (by rfl) U.mD U.D.kp U.bD .nil pass0 (pa_n (pv 0) (pa_k pe_int pa_nil))
                                  case q5 =>
                                    refine' pa_k ?p6 ?q6
                                    case p6 =>
                                      exact pe_int
                                    case q6 =>
                                      refine' pa_c ?p7 ?q7
                                      case p7 =>
                                        exact pe_call GD hr1 (by rfl) U.mD U.D.kp U.bD .nil pass0 (pa_n (pv 0) (pa_k pe_int pa_nil))
                                      case q7 => exact pa_nil
                  case s7 =>
                    refine' ps_ret (pe_op op_catT (pe_ix ix_list (pv 7) (pe_op op_sub (pv 4) pe_int) (fun _ _ => rfl)) (pe_callTy call_tuple_of (by rfl) T.tup (by decide +kernel) (pa_cons ?x pa_nil)))
                    case x =>
                      refine' pe_comp (N' := ["_law_feed_here", "_law_world", "_law_below", "_law_over", "_law_k"]) (src := [some 0, some 1, some 2, some 3, none]) ?k1 ?k5 ?k6 ?k7
                      case k1 => rfl
                      case k5 => exact compScope_of (defScope sForm) rfl ["_law_feed_here", "_law_world", "_law_below", "_law_over", "_law_way", "_law_some", "_law_first", "_law_heads", "_law_many"] rfl (by decide +kernel)
                      case k6 => exact pi_range1 (by rfl) U.T.range (pa_n (pv 8) pa_nil)
                      case k7 => exact fun cl C ex s0 H0 => ⟨pg_name (i := 4) nd_form rfl (Or.inl rfl), pts_nil, pe_call ih hr (by rfl) m F.kp b .nil pass0 (pa_n (pv 0) (pa_n (pv 1) (pa_cons (pe_op op_sub (pv 2) pe_int) (pa_n (pv 3) pa_nil))))⟩
      case fin =>
        have C0 : Cw H H d l wd ns n r := ⟨F0, W0, But2.refl _ _ _⟩
        refine ⟨fun σ' H' => σ' = [some (.ref d), some (.ref wd), some (.int bb), some (.int o), none, none, none, none, none] ∧ Cw H H' d l wd ns n (r - 1), ?_, ?_⟩
        · refine ⟨_, rfl, wd, .int r, rfl, get_room W0, _, _, rfl, rfl, _, rfl, wd, _, rfl, set_room W0, rfl, C0.room⟩
        rintro σ1 H1 ⟨rfl, C1⟩
        refine ⟨fun σ' H' => ∃ (way : Int) (n1 : Nat), σ' = [some (.ref d), some (.ref wd), some (.int bb), some (.int o), some (.int way), none, none, none, none] ∧ 0 ≤ way ∧ way < 14 ∧ n1 ≤ n + 1 ∧ Cw H H' d l wd ns n1 (r - 1), ?_, ?_⟩
        · exact ⟨_, rfl, d, l, ns, n, _, rfl, C1.F, by omega, by decide, by decide, fun way n1 H2 w0 w1 hn1 F1 b1 => ⟨way, n1, rfl, w0, w1, hn1, C1.draw b1 F1⟩⟩
        clear C1
        rintro σ2 H2 ⟨way, n1, rfl, hw0, hw14, hn1, C2⟩
        refine ⟨_, rfl, _, _, rfl, rfl, _, rfl, ite2 (fun _ => iteT ?a1) (fun g1 => ?b1)⟩
        case b1 =>
          refine ⟨_, rfl, wd, .int (r - 1), rfl, get_room C2.W, _, _, rfl, rfl, _, rfl, ite2 (fun _ => iteT ?a2) (fun g2 => ?b2)⟩
          case b2 =>
            refine ⟨_, rfl, _, _, rfl, rfl, _, rfl, ite2 (fun _ => ?a3) (fun g3 => ?rest)⟩
            case rest =>
              have hb2 : 2 ≤ bb := by
                have := of_decide_eq_false (Bool.eq_false_iff.mpr g1)
                omega
              have hr6 : 6 ≤ r - 1 := by
                have := of_decide_eq_false (Bool.eq_false_iff.mpr g2)
                omega
              have hN1 : 1 ≤ N := by omega
              refine ⟨_, rfl, _, _, rfl, rfl, _, rfl, ite2 (fun g4 => ?_) (fun g4 => ?_)⟩
              · refine ⟨_, rfl, _, rfl, _, rfl, _, _, rfl, rfl, _, rfl, d, l, wd, ns, n1, r - 1, bb - 1, o, rfl, hN1, by omega, by omega, C2.F, by omega, C2.W, by omega, by omega, ho, fun v1 t1 n3 r3 H3 h1 o1 c1 z1 lb1 hn3 F3 W3 b3 => ?_⟩
                have C3 := C2.go b3 F3 W3
                refine ⟨_, rfl, _, rfl, _, rfl, _, rfl, _, _, rfl, rfl, _, rfl, _, _, rfl, rfl, d, l, wd, ns, n3, r3, bb - 1, o + 1, rfl, hN1, by omega, by omega, C3.F, by omega, C3.W, by omega, by omega, by omega, fun v2 t2 n4 r4 H4 h2 o2 c2 z2 lb2 hn4 F4 W4 b4 => ?_⟩
                have C4 := C3.go b4 F4 W4
                refine ⟨(by show 3 ≤ sizeLine; decide), fun p hp => ?_⟩
                have sp := same_upd (o := .tup [.str "let", v1, v2]) hp
                have C5 := C4.same sp
                have ct : cnt (.tup [.at (.str "let"), t1, t2]) = 1 + (cnt t1 + cnt t2) := by
                  simp only [cnt, cnts]
                  omega
                have zt : Th.sz (.tup [.at (.str "let"), t1, t2]) = 2 + (Th.sz t1 + Th.sz t2) := by
                  simp only [Th.sz, szs]
                  omega
                refine k (.ref p) (.tup [.at (.str "let"), t1, t2]) n4 r4 _ (.tup upd_same (.cons (.at (by decide +kernel)) (.cons (IsTh.kp (Kp.of sp) (IsTh.kp (C3.kp b4) h1)) (.cons (IsTh.kp (Kp.of sp) h2) .nil)))) ?_ (by rw [ct]; omega) (by rw [ct, zt]; omega) (.inr ?_) (by omega) C5.F C5.W C5.b2
                · refine ⟨"let", [t1, t2], rfl, fun _ => ⟨t1, t2, rfl, ow_tup o1, ow_tup o2⟩, fun z => absurd z (by decide +kernel), fun x hx _ => ?_⟩
                  simp only [List.mem_cons, List.not_mem_nil, or_false] at hx
                  rcases hx with rfl | rfl
                  · exact o1
                  · exact o2
                · omega
              · refine ⟨fun σ' H' => ∃ (hd : Addr) (as : List Addr), σ' = [some (.ref d), some (.ref wd), some (.int bb), some (.int o), some (.int way), none, none, some (.ref hd), none] ∧ H' hd = some (.lst (as.map V.ref)) ∧ Tps H' as heads7 ∧ Cw H H' d l wd ns n1 (r - 1), ?_, ?_⟩
                · unfold tAsg tLst
                  refine tups_go heads7 fun as H' s hT => ?_
                  have hal : as.length = 7 := hT.1
                  refine ⟨by rw [List.length_map]; omega, fun hd hhd => ?_⟩
                  have sh := same_upd (o := .lst (as.map V.ref)) hhd
                  exact ⟨hd, as, rfl, upd_same, ⟨hT.1, fun j a vs e1 e2 => sh _ _ (hT.2 j a vs e1 e2)⟩, (C2.same s).same sh⟩
                clear C2
                rintro σ3 H3 ⟨hd, as, rfl, D3, T3, C3⟩
                have hw7 : 7 ≤ way := by
                  have := of_decide_eq_false (Bool.eq_false_iff.mpr g4)
                  omega
                refine ⟨fun σ' H' => ∃ (mn : Int) (n5 : Nat), σ' = [some (.ref d), some (.ref wd), some (.int bb), some (.int o), some (.int way), none, none, some (.ref hd), some (.int mn)] ∧ 0 ≤ mn ∧ mn ≤ 6 ∧ n5 ≤ n1 + 2 ∧ H' hd = some (.lst (as.map V.ref)) ∧ Tps H' as heads7 ∧ Cw H H' d l wd ns n5 (r - 1), ?_, ?_⟩
                · refine ⟨_, rfl, d, l, ns, n1, _, rfl, C3.F, by omega, by decide, by decide, fun q n4 H4 q0 q1 hn4 F4 b4 => ⟨_, _, rfl, rfl, ?_⟩⟩
                  have C4 := C3.draw b4 F4
                  refine ⟨_, rfl, d, l, ns, n4, _, rfl, C4.F, by omega, by decide, by decide, fun q2 n5 H5 q20 q21 hn5 F5 b5 => ?_⟩
                  have C5 := C4.draw b5 F5
                  refine ⟨(by show 7 ≤ sizeLine; decide), fun ml hml => ?_⟩
                  have sm := same_upd (o := .lst [.int 2, .int 3, .int 1, .int 1, .int (1 + q), .int 1, .int q2]) hml
                  obtain ⟨v, hv, hat⟩ := at_in (xs := [V.int 2, .int 3, .int 1, .int 1, .int (1 + q), .int 1, .int q2]) (i := way - 7) (by omega) (by show way - 7 < 7; omega)
                  have hvi : ∃ mn : Int, v = .int mn ∧ 0 ≤ mn ∧ mn ≤ 6 := by
                    simp only [List.mem_cons, List.not_mem_nil, or_false] at hv
                    rcases hv with rfl | rfl | rfl | rfl | rfl | rfl | rfl
                    · exact ⟨2, rfl, by decide, by decide⟩
                    · exact ⟨3, rfl, by decide, by decide⟩
                    · exact ⟨1, rfl, by decide, by decide⟩
                    · exact ⟨1, rfl, by decide, by decide⟩
                    · exact ⟨1 + q, rfl, by omega, by omega⟩
                    · exact ⟨1, rfl, by decide, by decide⟩
                    · exact ⟨q2, rfl, by omega, by omega⟩
                  obtain ⟨mn, rfl, m0, m6⟩ := hvi
                  have kA : Kp H3 (upd H5 ml (.lst [.int 2, .int 3, .int 1, .int 1, .int (1 + q), .int 1, .int q2])) := ((b4.kp C3.F).trans (b5.kp C4.F)).trans (Kp.of sm)
                  refine ⟨_, rfl, _, _, rfl, rfl, ml, _, way - 7, .int mn, rfl, rfl, SqL.of upd_same, hat, mn, n5, rfl, m0, m6, by omega, kA _ _ D3 (fun _ z => by cases z), ⟨T3.1, fun j a vs e1 e2 => kA _ _ (T3.2 j a vs e1 e2) (fun _ z => by cases z)⟩, C5.same sm⟩
                clear D3 T3 C3
                rintro σ4 H4 ⟨mn, n4, rfl, m0, m6, hn4, D4, T4, C4⟩
                obtain ⟨v, hv, hat⟩ := at_in (xs := as.map V.ref) (i := way - 7) (by omega) (by rw [List.length_map, T4.1]; show way - 7 < 7; omega)
                obtain ⟨j, hj⟩ := List.mem_iff_getElem?.mp hv
                rw [List.getElem?_map] at hj
                obtain ⟨aj, haj, rfl⟩ : ∃ aj, as[j]? = some aj ∧ V.ref aj = v := by
                  cases e : as[j]? with
                  | none => rw [e] at hj; cases hj
                  | some a => rw [e] at hj; exact ⟨a, rfl, by simpa using hj⟩
                have hjl : j < heads7.length := by
                  have := (List.getElem?_eq_some_iff.mp haj).1
                  rw [T4.1] at this
                  exact this
                have hvs := getElem?_pos heads7 j hjl
                have hA := T4.2 j aj _ haj hvs
                obtain ⟨w0, rest, ehv, hwl, hwo, hrl1, hsm⟩ := heads_ok _ (List.mem_of_getElem? hvs)
                rw [ehv] at hA hsm
                have hc7 : (7 : Nat) * 1 = 7 := rfl
                refine ⟨_, rfl, _, rfl, _, _, rfl, rfl, hd, as.map V.ref, way - 7, .ref aj, rfl, rfl, SqL.of D4, hat, ?_⟩
                refine ⟨_, rfl, mn, rfl, by omega, by omega, comp_range (lo := 0) (n := mn.toNat) (fun i ys σc H' => ∃ (n' : Nat) (oo : Option V) (r' : Int) (cs : List Th), σc = [some (.ref d), some (.ref wd), some (.int bb), some (.int o), oo] ∧ Cw H4 H' d l wd ns n' r' ∧ n' ≤ n4 + i * cD N ∧ IsThs H' ys cs ∧ cs.length = i ∧ (∀ c ∈ cs, OwT N c) ∧ (cnts cs : Int) = r - 1 - r' ∧ szs cs ≤ 3 * cnts cs ∧ (r - 1 - i ≤ r' ∨ 11 - 5 * (N : Int) - i ≤ r'))
                  ⟨n4, none, r - 1, [], rfl, ⟨C4.F, C4.W, But2.refl _ _ _⟩, by omega, .nil, rfl, (fun c hc => by cases hc), by simp [cnts], by simp [szs], .inl (by omega)⟩ ?_ ?_⟩
                · rintro i ys σc H' hi ⟨n', oo, r', cs, rfl, C', hn', hcs, hcl, hca, hcc, hcz, hlb⟩
                  have hmul : i * cD N ≤ 5 * cD N := Nat.mul_le_mul_right _ (by omega)
                  have hys := IsThs.len _ hcs
                  have hlo : -1000 ≤ r' := by omega
                  have hhi : r' ≤ 1000 := by omega
                  refine ⟨by omega, ?_⟩
                  refine ⟨_, rfl, _, rfl, _, rfl, _, _, rfl, rfl, _, rfl, d, l, wd, ns, n', r', bb - 1, o, rfl, hN1, by omega, by omega, C'.F, by omega, C'.W, hlo, hhi, ho, fun v t n2' r2' H2' h1 o1 c1 z1 lb1 hn2 F2' W2' b2' => ?_⟩
                  refine nx hi ⟨n2', _, r2', cs ++ [t], rfl, C'.go b2' F2' W2', by rw [Nat.succ_mul]; omega, IsThs.app _ (IsThs.kp (C'.kp b2') hcs) (.cons h1 .nil), by rw [List.length_append, hcl]; rfl, fun c hc => ?_, ?_, ?_, ?_⟩
                  · rcases List.mem_append.mp hc with z | z
                    · exact hca c z
                    · rw [List.mem_singleton] at z
                      subst z
                      exact o1
                  · rw [cnts_app]
                    simp only [cnts]
                    omega
                  · rw [szs_app, cnts_app]
                    simp only [szs, cnts]
                    omega
                  · omega
                · rintro ys σc H' ⟨n', oo, r', cs, rfl, C', hn', hcs, hcl, hca, hcc, hcz, hlb⟩ q hq
                  have hys := IsThs.len _ hcs
                  have sq := same_upd (o := .lst ys) hq
                  have hmul : mn.toNat * cD N ≤ 6 * cD N := Nat.mul_le_mul_right _ (by omega)
                  have hA' := sq _ _ (C4.kp C'.b2 _ _ hA (fun _ z => by cases z))
                  have ct : cnt (.tup ((V.str w0 :: rest).map Th.at ++ cs)) = 1 + cnts cs := by rw [cnt, cnts_app, cnts_at]; omega
                  have zt : Th.sz (.tup ((V.str w0 :: rest).map Th.at ++ cs)) = 1 + (1 + rest.length + szs cs) := by
                    rw [Th.sz, szs_app, szs_at', List.length_cons]
                    omega
                  have fin2 : ∀ (v : V) (H9 : Hp), IsTh H9 v (.tup ((V.str w0 :: rest).map Th.at ++ cs)) → Cw H H9 d l wd ns n' r' → Q v H9 := fun v H9 hv C9 => by
                    refine k v _ n' r' H9 hv (node_ow hwl hwo hca) (by rw [ct]; omega) (by rw [ct, zt]; omega) (.inr ?_) (by omega) C9.F C9.W C9.b2
                    omega
                  have CA := C'.same sq
                  have CB : Cw H (upd H' q (.lst ys)) d l wd ns n' r' := ⟨CA.F, CA.W, C4.b2.trans CA.b2⟩
                  refine ⟨q, ys, rfl, .inl ⟨SqL.of upd_same, fun p hp => ?_⟩⟩
                  have sp := same_upd (o := .tup ys) hp
                  refine ⟨aj, p, _, ys, rfl, rfl, SqT.of (sp _ _ hA'), SqT.of upd_same, (by intro z; cases z), by rw [List.length_cons]; omega, fun hy => ?_, fun hy p2 hp2 => ?_⟩
                  · have hc0 : cs = [] := by
                      have : cs.length = 0 := by rw [← hys, hy]; rfl
                      exact List.eq_nil_of_length_eq_zero this
                    subst hc0
                    refine fin2 (.ref aj) _ (.tup (sp _ _ hA') ?_) (CB.same sp)
                    rw [List.append_nil]
                    exact ths_at' hsm
                  · have s2 := same_upd (o := .tup ((V.str w0 :: rest) ++ ys)) hp2
                    exact fin2 (.ref p2) _ (.tup upd_same (IsThs.app _ (ths_at' hsm) (IsThs.kp (Kp.of ((sq.trans sp).trans s2)) hcs))) ((CB.same sp).same s2)

            case a3 =>
              refine ⟨fun σ' H' => ∃ (sm : Addr) (xs : List V) (ts : List Th) (n' : Nat), σ' = [some (.ref d), some (.ref wd), some (.int bb), some (.int o), some (.int way), some (.ref sm), none, none, none] ∧ H' sm = some (.lst xs) ∧ IsThs H' xs ts ∧ xs.length = 3 ∧ (∀ t ∈ ts, LeafO t) ∧ n' ≤ n1 + 7 ∧ Cw H H' d l wd ns n' (r - 1), ?_, ?_⟩
              · refine ⟨_, rfl, _, rfl, d, l, ns, n1, o, rfl, C2.F, by omega, ho, fun i1 m1 J1 i10 hm1 F1 b1 => ⟨(by show 2 ≤ sizeLine; decide), fun p1 hp1 => ?_⟩⟩
                have D1 := C2.draw b1 F1
                have s1 := same_upd (o := .tup [.str "own", .int i1]) hp1
                have E1 := D1.same s1
                refine ⟨_, rfl, _, rfl, d, l, ns, m1, o, rfl, E1.F, by omega, ho, fun i2 m2 J2 i20 hm2 F2 b2 => ⟨(by show 2 ≤ sizeLine; decide), fun p2 hp2 => ?_⟩⟩
                have D2 := E1.draw b2 F2
                have s2 := same_upd (o := .tup [.str "own", .int i2]) hp2
                have E2 := D2.same s2
                refine ⟨_, rfl, d, l, ns, m2, _, rfl, E2.F, by omega, by decide, by decide, fun i3 m3 J3 i30 i31 hm3 F3 b3 => ⟨(by show 2 ≤ sizeLine; decide), fun p3 hp3 => ?_⟩⟩
                have D3 := E2.draw b3 F3
                have s3 := same_upd (o := .tup [.str "hole", .int i3]) hp3
                have E3 := D3.same s3
                refine ⟨(by show 3 ≤ sizeLine; decide), fun sm hsm => ?_⟩
                have s4 := same_upd (o := .lst [.ref p1, .ref p2, .ref p3]) hsm
                have t1 : IsTh (upd J1 p1 (.tup [.str "own", .int i1])) (.ref p1) (.tup [.at (.str "own"), .at (.int i1)]) := .tup upd_same (.cons (.at (by decide +kernel)) (.cons (.at rfl) .nil))
                have t2 : IsTh (upd J2 p2 (.tup [.str "own", .int i2])) (.ref p2) (.tup [.at (.str "own"), .at (.int i2)]) := .tup upd_same (.cons (.at (by decide +kernel)) (.cons (.at rfl) .nil))
                have t3 : IsTh (upd J3 p3 (.tup [.str "hole", .int i3])) (.ref p3) (.tup [.at (.str "hole"), .at (.int i3)]) := .tup upd_same (.cons (.at (by decide +kernel)) (.cons (.at rfl) .nil))
                have u1 := IsTh.kp (Kp.of s4) (IsTh.kp (Kp.of s3) (IsTh.kp (b3.kp E2.F) (IsTh.kp (Kp.of s2) (IsTh.kp (b2.kp E1.F) t1))))
                have u2 := IsTh.kp (Kp.of s4) (IsTh.kp (Kp.of s3) (IsTh.kp (b3.kp E2.F) t2))
                have u3 := IsTh.kp (Kp.of s4) t3
                refine ⟨sm, _, _, m3, rfl, upd_same, .cons u1 (.cons u2 (.cons u3 .nil)), rfl, fun t ht => ?_, by omega, E3.same s4⟩
                simp only [List.mem_cons, List.not_mem_nil, or_false] at ht
                rcases ht with rfl | rfl | rfl
                · exact leafO i10
                · exact leafO i20
                · exact leaf1 (by decide +kernel) (by decide +kernel)
              · rintro σ3 H3 ⟨sm, xs, ts, n3, rfl, S3, hxs, hxl, hlf, hn3, C3⟩
                refine ⟨_, rfl, (by show 2 ≤ sizeLine; decide), fun p1 hp1 => ?_⟩
                have s1 := same_upd (o := .tup [.str "name", .str "a"]) hp1
                refine ⟨(by show 1 ≤ sizeLine; decide), fun p2 hp2 => ?_⟩
                have s2 := same_upd (o := .tup [.str "take"]) hp2
                have E2 := C3.same (s1.trans s2)
                refine ⟨_, rfl, d, l, ns, n3, rfl, E2.F, by omega, fun i3 m3 J3 i30 i31 hm3 F3 b3 => ⟨(by show 2 ≤ sizeLine; decide), fun p3 hp3 => ?_⟩⟩
                have D3 := E2.draw b3 F3
                have s3 := same_upd (o := .tup [.str "num", .int i3]) hp3
                have E3 := D3.same s3
                refine ⟨(by show 3 ≤ sizeLine; decide), fun l2 hl2 => ?_⟩
                have s4 := same_upd (o := .lst [.ref p1, .ref p2, .ref p3]) hl2
                have S4 := s4 _ _ (s3 _ _ (E2.F.lst b3 ((s1.trans s2) _ _ S3)))
                refine ⟨sm, l2, xs, _, rfl, rfl, S4, upd_same, by show xs.length + 3 ≤ sizeLine; omega, fun c hc => ?_⟩
                have s5 := same_upd (o := .lst (xs ++ [.ref p1, .ref p2, .ref p3])) hc
                have E5 := (E3.same s4).same s5
                have t1 : IsTh (upd (upd H3 p1 (.tup [.str "name", .str "a"])) p2 (.tup [.str "take"])) (.ref p1) (.tup [.at (.str "name"), .at (.str "a")]) := .tup (s2 _ _ upd_same) (.cons (.at (by decide +kernel)) (.cons (.at (by decide +kernel)) .nil))
                have t2 : IsTh (upd (upd H3 p1 (.tup [.str "name", .str "a"])) p2 (.tup [.str "take"])) (.ref p2) (.tup [.at (.str "take")]) := .tup upd_same (.cons (.at (by decide +kernel)) .nil)
                have t3 : IsTh (upd J3 p3 (.tup [.str "num", .int i3])) (.ref p3) (.tup [.at (.str "num"), .at (.int i3)]) := .tup upd_same (.cons (.at (by decide +kernel)) (.cons (.at rfl) .nil))
                have k5 := (s3.trans s4).trans s5
                have hall := IsThs.app _ (IsThs.kp (Kp.of k5) (IsThs.kp (b3.kp E2.F) (IsThs.kp (Kp.of (s1.trans s2)) hxs))) (.cons (IsTh.kp (Kp.of k5) (IsTh.kp (b3.kp E2.F) t1)) (.cons (IsTh.kp (Kp.of k5) (IsTh.kp (b3.kp E2.F) t2)) (.cons (IsTh.kp (Kp.of (s4.trans s5)) t3) .nil)))
                refine ⟨_, rfl, d, l, ns, m3, _, rfl, E5.F, by omega, by decide, by decide, fun q m4 J4 q0 q1 hm4 F4 b4 => ?_⟩
                have E6 := E5.draw b4 F4
                obtain ⟨v, hv, hat⟩ := at_in (xs := xs ++ [.ref p1, .ref p2, .ref p3]) (i := q) q0 (by rw [List.length_append, hxl]; exact q1)
                refine ⟨c, _, q, v, rfl, rfl, SqL.of (E5.F.lst b4 upd_same), hat, ?_⟩
                obtain ⟨j, hj⟩ := List.mem_iff_getElem?.mp hv
                obtain ⟨t, htj, htv⟩ := ths_get _ hall hj
                have hlt : LeafO t := by
                  rcases List.mem_append.mp (List.mem_of_getElem? htj) with z | z
                  · exact hlf t z
                  · simp only [List.mem_cons, List.not_mem_nil, or_false] at z
                    rcases z with rfl | rfl | rfl
                    · exact leaf1 (by decide +kernel) (by decide +kernel)
                    · exact leaf0 (by decide +kernel) (by decide +kernel)
                    · exact leaf1 (by decide +kernel) (by decide +kernel)
                exact k v t m4 (r - 1) J4 (IsTh.kp (b4.kp E5.F) htv) (hlt.1.le (by omega)) (by rw [hlt.2.1]; omega) (by rw [hlt.2.1]; exact hlt.2.2) (.inl (Int.le_refl _)) (by omega) E6.F E6.W E6.b2
          case a2 =>
            refine ⟨fun σ' H' => ∃ (sm : Addr) (xs : List V) (ts : List Th) (n' : Nat), σ' = [some (.ref d), some (.ref wd), some (.int bb), some (.int o), some (.int way), some (.ref sm), none, none, none] ∧ H' sm = some (.lst xs) ∧ IsThs H' xs ts ∧ xs.length = 3 ∧ (∀ t ∈ ts, LeafO t) ∧ n' ≤ n1 + 7 ∧ Cw H H' d l wd ns n' (r - 1), ?_, ?_⟩
            · refine ⟨_, rfl, _, rfl, d, l, ns, n1, o, rfl, C2.F, by omega, ho, fun i1 m1 J1 i10 hm1 F1 b1 => ⟨(by show 2 ≤ sizeLine; decide), fun p1 hp1 => ?_⟩⟩
              have D1 := C2.draw b1 F1
              have s1 := same_upd (o := .tup [.str "own", .int i1]) hp1
              have E1 := D1.same s1
              refine ⟨_, rfl, _, rfl, d, l, ns, m1, o, rfl, E1.F, by omega, ho, fun i2 m2 J2 i20 hm2 F2 b2 => ⟨(by show 2 ≤ sizeLine; decide), fun p2 hp2 => ?_⟩⟩
              have D2 := E1.draw b2 F2
              have s2 := same_upd (o := .tup [.str "own", .int i2]) hp2
              have E2 := D2.same s2
              refine ⟨_, rfl, d, l, ns, m2, _, rfl, E2.F, by omega, by decide, by decide, fun i3 m3 J3 i30 i31 hm3 F3 b3 => ⟨(by show 2 ≤ sizeLine; decide), fun p3 hp3 => ?_⟩⟩
              have D3 := E2.draw b3 F3
              have s3 := same_upd (o := .tup [.str "hole", .int i3]) hp3
              have E3 := D3.same s3
              refine ⟨(by show 3 ≤ sizeLine; decide), fun sm hsm => ?_⟩
              have s4 := same_upd (o := .lst [.ref p1, .ref p2, .ref p3]) hsm
              have t1 : IsTh (upd J1 p1 (.tup [.str "own", .int i1])) (.ref p1) (.tup [.at (.str "own"), .at (.int i1)]) := .tup upd_same (.cons (.at (by decide +kernel)) (.cons (.at rfl) .nil))
              have t2 : IsTh (upd J2 p2 (.tup [.str "own", .int i2])) (.ref p2) (.tup [.at (.str "own"), .at (.int i2)]) := .tup upd_same (.cons (.at (by decide +kernel)) (.cons (.at rfl) .nil))
              have t3 : IsTh (upd J3 p3 (.tup [.str "hole", .int i3])) (.ref p3) (.tup [.at (.str "hole"), .at (.int i3)]) := .tup upd_same (.cons (.at (by decide +kernel)) (.cons (.at rfl) .nil))
              have u1 := IsTh.kp (Kp.of s4) (IsTh.kp (Kp.of s3) (IsTh.kp (b3.kp E2.F) (IsTh.kp (Kp.of s2) (IsTh.kp (b2.kp E1.F) t1))))
              have u2 := IsTh.kp (Kp.of s4) (IsTh.kp (Kp.of s3) (IsTh.kp (b3.kp E2.F) t2))
              have u3 := IsTh.kp (Kp.of s4) t3
              refine ⟨sm, _, _, m3, rfl, upd_same, .cons u1 (.cons u2 (.cons u3 .nil)), rfl, fun t ht => ?_, by omega, E3.same s4⟩
              simp only [List.mem_cons, List.not_mem_nil, or_false] at ht
              rcases ht with rfl | rfl | rfl
              · exact leafO i10
              · exact leafO i20
              · exact leaf1 (by decide +kernel) (by decide +kernel)
            · rintro σ3 H3 ⟨sm, xs, ts, n3, rfl, S3, hxs, hxl, hlf, hn3, C3⟩
              refine ⟨_, rfl, (by show 2 ≤ sizeLine; decide), fun p1 hp1 => ?_⟩
              have s1 := same_upd (o := .tup [.str "name", .str "a"]) hp1
              refine ⟨(by show 1 ≤ sizeLine; decide), fun p2 hp2 => ?_⟩
              have s2 := same_upd (o := .tup [.str "take"]) hp2
              have E2 := C3.same (s1.trans s2)
              refine ⟨_, rfl, d, l, ns, n3, rfl, E2.F, by omega, fun i3 m3 J3 i30 i31 hm3 F3 b3 => ⟨(by show 2 ≤ sizeLine; decide), fun p3 hp3 => ?_⟩⟩
              have D3 := E2.draw b3 F3
              have s3 := same_upd (o := .tup [.str "num", .int i3]) hp3
              have E3 := D3.same s3
              refine ⟨(by show 3 ≤ sizeLine; decide), fun l2 hl2 => ?_⟩
              have s4 := same_upd (o := .lst [.ref p1, .ref p2, .ref p3]) hl2
              have S4 := s4 _ _ (s3 _ _ (E2.F.lst b3 ((s1.trans s2) _ _ S3)))
              refine ⟨sm, l2, xs, _, rfl, rfl, S4, upd_same, by show xs.length + 3 ≤ sizeLine; omega, fun c hc => ?_⟩
              have s5 := same_upd (o := .lst (xs ++ [.ref p1, .ref p2, .ref p3])) hc
              have E5 := (E3.same s4).same s5
              have t1 : IsTh (upd (upd H3 p1 (.tup [.str "name", .str "a"])) p2 (.tup [.str "take"])) (.ref p1) (.tup [.at (.str "name"), .at (.str "a")]) := .tup (s2 _ _ upd_same) (.cons (.at (by decide +kernel)) (.cons (.at (by decide +kernel)) .nil))
              have t2 : IsTh (upd (upd H3 p1 (.tup [.str "name", .str "a"])) p2 (.tup [.str "take"])) (.ref p2) (.tup [.at (.str "take")]) := .tup upd_same (.cons (.at (by decide +kernel)) .nil)
              have t3 : IsTh (upd J3 p3 (.tup [.str "num", .int i3])) (.ref p3) (.tup [.at (.str "num"), .at (.int i3)]) := .tup upd_same (.cons (.at (by decide +kernel)) (.cons (.at rfl) .nil))
              have k5 := (s3.trans s4).trans s5
              have hall := IsThs.app _ (IsThs.kp (Kp.of k5) (IsThs.kp (b3.kp E2.F) (IsThs.kp (Kp.of (s1.trans s2)) hxs))) (.cons (IsTh.kp (Kp.of k5) (IsTh.kp (b3.kp E2.F) t1)) (.cons (IsTh.kp (Kp.of k5) (IsTh.kp (b3.kp E2.F) t2)) (.cons (IsTh.kp (Kp.of (s4.trans s5)) t3) .nil)))
              refine ⟨_, rfl, d, l, ns, m3, _, rfl, E5.F, by omega, by decide, by decide, fun q m4 J4 q0 q1 hm4 F4 b4 => ?_⟩
              have E6 := E5.draw b4 F4
              obtain ⟨v, hv, hat⟩ := at_in (xs := xs ++ [.ref p1, .ref p2, .ref p3]) (i := q) q0 (by rw [List.length_append, hxl]; exact q1)
              refine ⟨c, _, q, v, rfl, rfl, SqL.of (E5.F.lst b4 upd_same), hat, ?_⟩
              obtain ⟨j, hj⟩ := List.mem_iff_getElem?.mp hv
              obtain ⟨t, htj, htv⟩ := ths_get _ hall hj
              have hlt : LeafO t := by
                rcases List.mem_append.mp (List.mem_of_getElem? htj) with z | z
                · exact hlf t z
                · simp only [List.mem_cons, List.not_mem_nil, or_false] at z
                  rcases z with rfl | rfl | rfl
                  · exact leaf1 (by decide +kernel) (by decide +kernel)
                  · exact leaf0 (by decide +kernel) (by decide +kernel)
                  · exact leaf1 (by decide +kernel) (by decide +kernel)
              exact k v t m4 (r - 1) J4 (IsTh.kp (b4.kp E5.F) htv) (hlt.1.le (by omega)) (by rw [hlt.2.1]; omega) (by rw [hlt.2.1]; exact hlt.2.2) (.inl (Int.le_refl _)) (by omega) E6.F E6.W E6.b2
        case a1 =>
          refine ⟨fun σ' H' => ∃ (sm : Addr) (xs : List V) (ts : List Th) (n' : Nat), σ' = [some (.ref d), some (.ref wd), some (.int bb), some (.int o), some (.int way), some (.ref sm), none, none, none] ∧ H' sm = some (.lst xs) ∧ IsThs H' xs ts ∧ xs.length = 3 ∧ (∀ t ∈ ts, LeafO t) ∧ n' ≤ n1 + 7 ∧ Cw H H' d l wd ns n' (r - 1), ?_, ?_⟩
          · refine ⟨_, rfl, _, rfl, d, l, ns, n1, o, rfl, C2.F, by omega, ho, fun i1 m1 J1 i10 hm1 F1 b1 => ⟨(by show 2 ≤ sizeLine; decide), fun p1 hp1 => ?_⟩⟩
            have D1 := C2.draw b1 F1
            have s1 := same_upd (o := .tup [.str "own", .int i1]) hp1
            have E1 := D1.same s1
            refine ⟨_, rfl, _, rfl, d, l, ns, m1, o, rfl, E1.F, by omega, ho, fun i2 m2 J2 i20 hm2 F2 b2 => ⟨(by show 2 ≤ sizeLine; decide), fun p2 hp2 => ?_⟩⟩
            have D2 := E1.draw b2 F2
            have s2 := same_upd (o := .tup [.str "own", .int i2]) hp2
            have E2 := D2.same s2
            refine ⟨_, rfl, d, l, ns, m2, _, rfl, E2.F, by omega, by decide, by decide, fun i3 m3 J3 i30 i31 hm3 F3 b3 => ⟨(by show 2 ≤ sizeLine; decide), fun p3 hp3 => ?_⟩⟩
            have D3 := E2.draw b3 F3
            have s3 := same_upd (o := .tup [.str "hole", .int i3]) hp3
            have E3 := D3.same s3
            refine ⟨(by show 3 ≤ sizeLine; decide), fun sm hsm => ?_⟩
            have s4 := same_upd (o := .lst [.ref p1, .ref p2, .ref p3]) hsm
            have t1 : IsTh (upd J1 p1 (.tup [.str "own", .int i1])) (.ref p1) (.tup [.at (.str "own"), .at (.int i1)]) := .tup upd_same (.cons (.at (by decide +kernel)) (.cons (.at rfl) .nil))
            have t2 : IsTh (upd J2 p2 (.tup [.str "own", .int i2])) (.ref p2) (.tup [.at (.str "own"), .at (.int i2)]) := .tup upd_same (.cons (.at (by decide +kernel)) (.cons (.at rfl) .nil))
            have t3 : IsTh (upd J3 p3 (.tup [.str "hole", .int i3])) (.ref p3) (.tup [.at (.str "hole"), .at (.int i3)]) := .tup upd_same (.cons (.at (by decide +kernel)) (.cons (.at rfl) .nil))
            have u1 := IsTh.kp (Kp.of s4) (IsTh.kp (Kp.of s3) (IsTh.kp (b3.kp E2.F) (IsTh.kp (Kp.of s2) (IsTh.kp (b2.kp E1.F) t1))))
            have u2 := IsTh.kp (Kp.of s4) (IsTh.kp (Kp.of s3) (IsTh.kp (b3.kp E2.F) t2))
            have u3 := IsTh.kp (Kp.of s4) t3
            refine ⟨sm, _, _, m3, rfl, upd_same, .cons u1 (.cons u2 (.cons u3 .nil)), rfl, fun t ht => ?_, by omega, E3.same s4⟩
            simp only [List.mem_cons, List.not_mem_nil, or_false] at ht
            rcases ht with rfl | rfl | rfl
            · exact leafO i10
            · exact leafO i20
            · exact leaf1 (by decide +kernel) (by decide +kernel)
          · rintro σ3 H3 ⟨sm, xs, ts, n3, rfl, S3, hxs, hxl, hlf, hn3, C3⟩
            refine ⟨_, rfl, (by show 2 ≤ sizeLine; decide), fun p1 hp1 => ?_⟩
            have s1 := same_upd (o := .tup [.str "name", .str "a"]) hp1
            refine ⟨(by show 1 ≤ sizeLine; decide), fun p2 hp2 => ?_⟩
            have s2 := same_upd (o := .tup [.str "take"]) hp2
            have E2 := C3.same (s1.trans s2)
            refine ⟨_, rfl, d, l, ns, n3, rfl, E2.F, by omega, fun i3 m3 J3 i30 i31 hm3 F3 b3 => ⟨(by show 2 ≤ sizeLine; decide), fun p3 hp3 => ?_⟩⟩
            have D3 := E2.draw b3 F3
            have s3 := same_upd (o := .tup [.str "num", .int i3]) hp3
            have E3 := D3.same s3
            refine ⟨(by show 3 ≤ sizeLine; decide), fun l2 hl2 => ?_⟩
            have s4 := same_upd (o := .lst [.ref p1, .ref p2, .ref p3]) hl2
            have S4 := s4 _ _ (s3 _ _ (E2.F.lst b3 ((s1.trans s2) _ _ S3)))
            refine ⟨sm, l2, xs, _, rfl, rfl, S4, upd_same, by show xs.length + 3 ≤ sizeLine; omega, fun c hc => ?_⟩
            have s5 := same_upd (o := .lst (xs ++ [.ref p1, .ref p2, .ref p3])) hc
            have E5 := (E3.same s4).same s5
            have t1 : IsTh (upd (upd H3 p1 (.tup [.str "name", .str "a"])) p2 (.tup [.str "take"])) (.ref p1) (.tup [.at (.str "name"), .at (.str "a")]) := .tup (s2 _ _ upd_same) (.cons (.at (by decide +kernel)) (.cons (.at (by decide +kernel)) .nil))
            have t2 : IsTh (upd (upd H3 p1 (.tup [.str "name", .str "a"])) p2 (.tup [.str "take"])) (.ref p2) (.tup [.at (.str "take")]) := .tup upd_same (.cons (.at (by decide +kernel)) .nil)
            have t3 : IsTh (upd J3 p3 (.tup [.str "num", .int i3])) (.ref p3) (.tup [.at (.str "num"), .at (.int i3)]) := .tup upd_same (.cons (.at (by decide +kernel)) (.cons (.at rfl) .nil))
            have k5 := (s3.trans s4).trans s5
            have hall := IsThs.app _ (IsThs.kp (Kp.of k5) (IsThs.kp (b3.kp E2.F) (IsThs.kp (Kp.of (s1.trans s2)) hxs))) (.cons (IsTh.kp (Kp.of k5) (IsTh.kp (b3.kp E2.F) t1)) (.cons (IsTh.kp (Kp.of k5) (IsTh.kp (b3.kp E2.F) t2)) (.cons (IsTh.kp (Kp.of (s4.trans s5)) t3) .nil)))
            refine ⟨_, rfl, d, l, ns, m3, _, rfl, E5.F, by omega, by decide, by decide, fun q m4 J4 q0 q1 hm4 F4 b4 => ?_⟩
            have E6 := E5.draw b4 F4
            obtain ⟨v, hv, hat⟩ := at_in (xs := xs ++ [.ref p1, .ref p2, .ref p3]) (i := q) q0 (by rw [List.length_append, hxl]; exact q1)
            refine ⟨c, _, q, v, rfl, rfl, SqL.of (E5.F.lst b4 upd_same), hat, ?_⟩
            obtain ⟨j, hj⟩ := List.mem_iff_getElem?.mp hv
            obtain ⟨t, htj, htv⟩ := ths_get _ hall hj
            have hlt : LeafO t := by
              rcases List.mem_append.mp (List.mem_of_getElem? htj) with z | z
              · exact hlf t z
              · simp only [List.mem_cons, List.not_mem_nil, or_false] at z
                rcases z with rfl | rfl | rfl
                · exact leaf1 (by decide +kernel) (by decide +kernel)
                · exact leaf0 (by decide +kernel) (by decide +kernel)
                · exact leaf1 (by decide +kernel) (by decide +kernel)
            exact k v t m4 (r - 1) J4 (IsTh.kp (b4.kp E5.F) htv) (hlt.1.le (by omega)) (by rw [hlt.2.1]; omega) (by rw [hlt.2.1]; exact hlt.2.2) (.inl (Int.le_refl _)) (by omega) E6.F E6.W E6.b2
end
end K09

set_option Elab.async false
set_option linter.all false
set_option maxRecDepth 100000
set_option maxHeartbeats 4000000
namespace K09
open PySem L2 Srt
def spChain : Sp := fun vs H Q _ => ∃ (d l : Addr) (ns : List Int) (n : Nat), vs = [.ref d] ∧ Feed H d l ns n ∧ n ≤ 800000000000 ∧
  ∀ (v : V) (t : Th) (n' : Nat) H', IsTh H' v t → OwT 11 t → cnt t ≤ 21 → Th.sz t ≤ 3 * cnt t → n' ≤ n + 60 → Feed H' d l ns n' → But d H H' → Q v H'
section
variable {P : Program} {w : World} {K : PySem.W.Frag} {mg : Str → Option Value} {base : Heap}
theorem scChain : FnScope ["_law_feed_here", "_law_many", "_law_found", "_law_k", "_law_one"] ["_law_feed_here"] (defScope sChain) := ⟨rfl, rfl, rfl, by decide +kernel, rfl, by decide +kernel, by decide +kernel⟩
theorem ok_chain {f fD fO : Addr} {fd dD dO : FuncData} (F : Fun K "_law_chain" "_law_chain" sChain f fd) (U : Dr K mg fD dD) (hmax : mg "max" = none)
    (FO : Fun K "_law_own" "_law_own" sOwn fO dO) (bO : Binds K dO ["_law_feed_here", "_law_over"] []) (mO : mg "_law_own" = some (.ref fO)) : FnOk P w K mg base CX0 3 f fd ["_law_feed_here"] spChain := by
  have GD : FnOk P w K mg base CX0 1 fD dD ["_law_feed_here", "_law_many"] spDraw := ok_draw U.D U.T
  have GO : FnOk P w K mg base CX0 2 fO dO ["_law_feed_here", "_law_over"] spOwn := ok_own FO U hmax
  refine F.ok scChain (fun vs H Q E h => ?_) (fun cdv A outer s H vs Q E hr h => ?_)
  · obtain ⟨d, l, ns, n, rfl, _⟩ := h
    rfl
  · obtain ⟨d, l, ns, n, rfl, F0, hn, k⟩ := h
    have hsz : sizeLine = 16777216 := sizeLine_eq
    have hr1 : Room 1 _ := hr.mono (by decide)
    have hr2 : Room 2 _ := hr.mono (by decide)
    refine' ⟨?tt, ?body, ?fin⟩
    case body =>
      refine' pss_cons ?s1 ?r1
      case s1 => exact ps_set (i := 1) scChain.nd rfl (Or.inl rfl) (pe_op op_add pe_int (pe_call GD hr1 (by rfl) U.mD U.D.kp U.bD .nil pass0 (pa_n (pv 0) (pa_k pe_int pa_nil))))
      case r1 =>
        refine' pss_cons ?s2 ?r2
        case s2 => exact ps_set (i := 2) scChain.nd rfl (Or.inl rfl) (pe_tup (pa_k pe_str (pa_c (pe_call GO hr2 (by rfl) mO FO.kp bO .nil pass0 (pa_n (pv 0) (pa_n (pv 1) pa_nil))) pa_nil)))
        case r2 =>
          refine' pss_cons ?s3 (pss_one ?s4)
          case s3 =>
            refine' ps_for PassesOwn.never rfl (pi_range1 (by rfl) U.T.range (pa_n (pv 1) pa_nil)) (pg_name (i := 3) scChain.nd rfl (Or.inl rfl)) (pss_cons ?b1 (pss_one ?b2))
            case b1 => exact ps_set (i := 4) scChain.nd rfl (Or.inl rfl) (pe_tup (pa_k pe_str (pa_c (pe_call GO hr2 (by rfl) mO FO.kp bO .nil pass0 (pa_n (pv 0) (pa_cons (pe_op op_sub (pe_op op_sub (pv 1) pe_int) (pv 3)) pa_nil))) pa_nil)))
            case b2 =>
              refine' ps_set9 (i := 2) ?ha ?hb ?hc ?hd ?he ?hf
              case ha => exact scChain.nd
              case hb => exact rfl
              case hc => exact (Or.inl rfl)
              case he => exact rfl
              case hf => exact (.inr rfl)
              case hd =>
                refine' pe_ix ix_list ?l ?i (fun _ _ => rfl)
                case i => exact pe_call GD hr1 (by rfl) U.mD U.D.kp U.bD .nil pass0 (pa_n (pv 0) (pa_k pe_int pa_nil))
                case l =>
                  refine' pe_lst ?q0
                  case q0 =>
                    refine' pa_t (pe_tup (pa_k pe_str (pa_n (pv 4) (pa_n (pv 2) pa_nil)))) ?q1
                    case q1 =>
                      refine' pa_t (pe_tup (pa_k pe_str (pa_n (pv 4) (pa_n (pv 2) pa_nil)))) ?q2
                      case q2 =>
                        refine' pa_t (pe_tup (pa_k pe_str (pa_n (pv 2) (pa_n (pv 4) pa_nil)))) ?q3
                        case q3 => exact pa_nil
          case s4 => exact ps_ret (pv 2)
    case fin =>
      refine ⟨_, rfl, d, l, ns, n, _, rfl, F0, by omega, by decide, by decide, fun q n1 H1 q0 q1 hn1 F1 b1 => ⟨_, _, rfl, rfl, ?_⟩⟩
      refine ⟨_, rfl, _, rfl, d, l, ns, n1, 1 + q, rfl, F1, by omega, by omega, fun i1 n2 H2 i10 hn2 F2 b2 => ⟨(by show 2 ≤ sizeLine; decide), fun p1 hp1 => ?_⟩⟩
      have s1 := same_upd (o := .tup [.str "own", .int i1]) hp1
      have t1 : IsTh (upd H2 p1 (.tup [.str "own", .int i1])) (.ref p1) (.tup [.at (.str "own"), .at (.int i1)]) := .tup upd_same (.cons (.at (by decide +kernel)) (.cons (.at rfl) .nil))
      have l1 := leafO i10
      refine ⟨_, rfl, 1 + q, rfl, by omega, by omega, for_range (lo := 0) (n := (1 + q).toNat) (fun i σ H' => ∃ (v : V) (t : Th) (n' : Nat) (o3 o4 : Option V), σ = [some (.ref d), some (.int (1 + q)), some v, o3, o4] ∧ IsTh H' v t ∧ OwT (i + 1) t ∧ cnt t = 1 + 2 * i ∧ Th.sz t ≤ 3 * cnt t ∧ n' ≤ n2 + 4 * i ∧ Feed H' d l ns n' ∧ But d H H')
        ⟨.ref p1, _, n2, none, none, rfl, t1, l1.1, l1.2.1, by rw [l1.2.1]; exact l1.2.2, by omega, F2.same s1, (b1.trans b2).trans (But.of s1)⟩ ?_ ?_⟩
      · rintro i σ H3 hi ⟨v, t, n3, o3, o4, rfl, ht, how, hct, hzt, hn3, F3, B3⟩
        refine ⟨_, rfl, _, rfl, _, _, rfl, rfl, _, rfl, _, _, rfl, rfl, ?_⟩
        refine ⟨d, l, ns, n3, _, rfl, F3, by omega, by omega, fun i4 n4 H4 i40 hn4 F4 b4 => ⟨(by show 2 ≤ sizeLine; decide), fun p4 hp4 => ?_⟩⟩
        have s4 := same_upd (o := .tup [.str "own", .int i4]) hp4
        have t4 : IsTh (upd H4 p4 (.tup [.str "own", .int i4])) (.ref p4) (.tup [.at (.str "own"), .at (.int i4)]) := .tup upd_same (.cons (.at (by decide +kernel)) (.cons (.at rfl) .nil))
        have l4 := leafO i40
        have ht4 := IsTh.kp (Kp.of s4) (IsTh.kp (b4.kp F3) ht)
        refine ⟨_, rfl, _, rfl, (by show 3 ≤ sizeLine; decide), fun a1 ha1 => ?_⟩
        have z1 := same_upd (o := .tup [.str "let", .ref p4, v]) ha1
        refine ⟨_, rfl, _, rfl, (by show 3 ≤ sizeLine; decide), fun a2 ha2 => ?_⟩
        have z2 := same_upd (o := .tup [.str "let", .ref p4, v]) ha2
        refine ⟨_, rfl, _, rfl, (by show 3 ≤ sizeLine; decide), fun a3 ha3 => ?_⟩
        have z3 := same_upd (o := .tup [.str "let", v, .ref p4]) ha3
        refine ⟨(by show 3 ≤ sizeLine; decide), fun al hal => ?_⟩
        have z4 := same_upd (o := .lst [.ref a1, .ref a2, .ref a3]) hal
        have zA := ((z1.trans z2).trans z3).trans z4
        have F5 := (F4.same s4).same zA
        have B5 := ((B3.trans b4).trans (But.of s4)).trans (But.of zA)
        refine ⟨_, rfl, d, l, ns, n4, _, rfl, F5, by omega, by decide, by decide, fun q2 n5 H5 q20 q21 hn5 F6 b6 => ?_⟩
        obtain ⟨v9, hv9, hat⟩ := at_in (xs := [V.ref a1, .ref a2, .ref a3]) (i := q2) q20 q21
        refine ⟨al, _, q2, v9, rfl, rfl, SqL.of (F5.lst b6 upd_same), hat, ?_⟩
        have kz := b6.kp F5
        have own5 := IsTh.kp kz (IsTh.kp (Kp.of zA) t4)
        have old5 := IsTh.kp kz (IsTh.kp (Kp.of zA) ht4)
        have e1 := kz _ _ ((z2.trans (z3.trans z4)) _ _ (upd_same (H := upd H4 p4 (.tup [.str "own", .int i4])) (a := a1) (o := .tup [.str "let", .ref p4, v]))) (fun _ z => by cases z)
        have e2 := kz _ _ ((z3.trans z4) _ _ (upd_same (a := a2) (o := .tup [.str "let", .ref p4, v]))) (fun _ z => by cases z)
        have e3 := kz _ _ (z4 _ _ (upd_same (a := a3) (o := .tup [.str "let", v, .ref p4]))) (fun _ z => by cases z)
        have o4' : OwT (i + 1) (.tup [.at (.str "own"), .at (.int i4)]) := l4.1.le (by omega)
        have mk : ∀ {k1 k2 : Th}, OwT (i + 1) k1 → OwT (i + 1) k2 → OwT (i + 1 + 1) (.tup [.at (.str "let"), k1, k2]) := fun {k1 k2} h1 h2 => by
          refine ⟨"let", [k1, k2], rfl, fun _ => ⟨k1, k2, rfl, ow_tup h1, ow_tup h2⟩, fun z => absurd z (by decide +kernel), fun x hx _ => ?_⟩
          simp only [List.mem_cons, List.not_mem_nil, or_false] at hx
          rcases hx with rfl | rfl
          · exact h1
          · exact h2
        have lc := l4.2.1
        have lz := l4.2.2
        simp only [List.mem_cons, List.not_mem_nil, or_false] at hv9
        have cA : cnt (.tup [.at (.str "let"), .tup [.at (.str "own"), .at (.int i4)], t]) = 2 + cnt t := by simp only [cnt, cnts]; omega
        have cB : cnt (.tup [.at (.str "let"), t, .tup [.at (.str "own"), .at (.int i4)]]) = 2 + cnt t := by simp only [cnt, cnts]; omega
        have zA' : Th.sz (.tup [.at (.str "let"), .tup [.at (.str "own"), .at (.int i4)], t]) = 5 + Th.sz t := by simp only [Th.sz, szs]; omega
        have zB' : Th.sz (.tup [.at (.str "let"), t, .tup [.at (.str "own"), .at (.int i4)]]) = 5 + Th.sz t := by simp only [Th.sz, szs]; omega
        rcases hv9 with rfl | rfl | rfl
        · exact ⟨.ref a1, _, n5, _, _, rfl, .tup e1 (.cons (.at (by decide +kernel)) (.cons own5 (.cons old5 .nil))), mk o4' how, by rw [cA]; omega, by rw [cA, zA']; omega, by omega, F6, B5.trans b6⟩
        · exact ⟨.ref a2, _, n5, _, _, rfl, .tup e2 (.cons (.at (by decide +kernel)) (.cons own5 (.cons old5 .nil))), mk o4' how, by rw [cA]; omega, by rw [cA, zA']; omega, by omega, F6, B5.trans b6⟩
        · exact ⟨.ref a3, _, n5, _, _, rfl, .tup e3 (.cons (.at (by decide +kernel)) (.cons old5 (.cons own5 .nil))), mk how o4', by rw [cB]; omega, by rw [cB, zB']; omega, by omega, F6, B5.trans b6⟩
      · rintro σ H3 ⟨v, t, n3, o3, o4, rfl, ht, how, hct, hzt, hn3, F3, B3⟩
        exact ⟨_, rfl, k v t n3 H3 ht (how.le (by omega)) (by omega) hzt (by omega) F3 B3⟩
end
end K09

set_option Elab.async false
set_option linter.all false
set_option maxRecDepth 100000
set_option maxHeartbeats 4000000
namespace K09
open PySem L2 Srt
def spLaw (K : PySem.W.Frag) : Sp := fun vs H Q _ => ∃ (a : Addr) (ns : List Int), vs = [.ref a] ∧ SqL K H a (ns.map V.int) ∧ ns.length ≤ 63 ∧ ∀ H', Q (.bl true) H'
theorem cD9 : cD 9 = 40310780 := by decide
theorem pvs_ints {K : PySem.W.Frag} {H : Hp} : ∀ ns : List Int, IsPVs K H 0 (ns.map V.int) (ns.map fun i => PV.at (.int i))
  | [] => .nil
  | n :: r => .cons (.at rfl) (pvs_ints r)
theorem same_ints : ∀ ns : List Int, eqPVs (ns.map fun i => PV.at (.int i)) (ns.map fun i => PV.at (.int i)) = true
  | [] => by simp [eqPVs]
  | n :: r => by simp [eqPVs, eqPV, eqV, same_ints r]
structure TxtM (K : PySem.W.Frag) : Prop where
  tt : PySem.W.kitOne K (.type "tuple") (.type "tuple") = some true
  ii : PySem.W.kitOne K (.type "int") (.type "int") = some true
  ib : PySem.W.kitOne K (.type "int") (.type "bool") = some false
section
variable {P : Program} {w : World} {K : PySem.W.Frag} {mg : Str → Option Value} {base : Heap}
theorem scLaw : FnScope ["_law_script", "_law_feed_here", "_law_turn", "_law_form_here", "_law_due", "_law_again", "_law_found"] ["_law_script"] (defScope sLaw) := ⟨rfl, rfl, rfl, by decide +kernel, rfl, by decide +kernel, by decide +kernel⟩
theorem ok_law {f fF fC fX fA fL fD : Addr} {fd dF dC dX dA dL dD : FuncData} (F : Fun K "law" "law" sLaw f fd) (U : Dr K mg fD dD) (T : TxtT mg) (TL : TxtL mg) (TM : TxtM K)
    (FF : Fun K "_law_feed" "_law_feed" sFeed fF dF) (bF : Binds K dF ["_law_script"] []) (mF : mg "_law_feed" = some (.ref fF))
    (GC : FnOk P w K mg base CX0 3 fC dC ["_law_feed_here"] spChain) (FC : Fun K "_law_chain" "_law_chain" sChain fC dC) (bC : Binds K dC ["_law_feed_here"] []) (mC : mg "_law_chain" = some (.ref fC))
    (GX : FnOk P w K mg base CX0 13 fX dX ["_law_feed_here", "_law_world", "_law_below", "_law_over"] (spForm 9)) (FX : Fun K "_law_form" "_law_form" sForm fX dX) (bX : Binds K dX ["_law_feed_here", "_law_world", "_law_below", "_law_over"] []) (mX : mg "_law_form" = some (.ref fX))
    (GA : FnOk P w K mg base CX0 13 fA dA ["_law_b"] (spAstray 11)) (FA : Fun K "_law_astray" "_law_astray" sAstray fA dA) (bA : Binds K dA ["_law_b"] []) (mA : mg "_law_astray" = some (.ref fA))
    (GL : FnOk P w K mg base CX0 3 fL dL ["b"] (spLoose 11)) (FL : Fun K "loose" "loose" sLoose fL dL) (bL : Binds K dL ["b"] []) (mL : mg "loose" = some (.ref fL)) :
    FnOk P w K mg base CX0 14 f fd ["_law_script"] (spLaw K) := by
  have GF : FnOk P w K mg base CX0 1 fF dF ["_law_script"] (spFeed K) := ok_feed FF U.T
  have GD : FnOk P w K mg base CX0 1 fD dD ["_law_feed_here", "_law_many"] spDraw := ok_draw U.D U.T
  refine F.ok scLaw (fun vs H Q E h => ?_) (fun cdv A outer s H vs Q E hr h => ?_)
  · obtain ⟨a, ns, rfl, _⟩ := h
    rfl
  · obtain ⟨a, ns, rfl, hS, hlen, k⟩ := h
    have hsz : sizeLine = 16777216 := sizeLine_eq
    have hu := hu_of hr
    have hu0 := hr.units0
    have hr1 : Room 1 _ := hr.mono (by decide)
    have hr3 : Room 3 _ := hr.mono (by decide)
    refine' ⟨?tt, ?body, ?fin⟩
    case body =>
      refine' pss_cons ?s1 ?r1
      case s1 => exact ps_set (i := 1) scLaw.nd rfl (Or.inl rfl) (pe_call GF hr1 (by rfl) mF FF.kp bF .nil pass0 (pa_n (pv 0) pa_nil))
      case r1 =>
        refine' pss_cons ?s2 (pss_one ?s3)
        case s2 =>
          refine' ps_for PassesOwn.never rfl (pi_range1 (by rfl) U.T.range (pa_k pe_int pa_nil)) (pg_name (i := 2) scLaw.nd rfl (Or.inl rfl)) ?blk
          case blk =>
            refine' pss_cut ?b1 ?q1
            case b1 => exact ps_set (i := 3) scLaw.nd rfl (Or.inl rfl) (pe_call GC hr3 (by rfl) mC FC.kp bC .nil pass0 (pa_n (pv 1) pa_nil))
            case q1 =>
              refine' pss_cut ?b2 ?q2
              case b2 =>
                refine' ps_if ?c (pss_one ?e) pss_nil
                case c => exact pt_cmpR op_gt (pv 2) pe_int (nomark _)
                case e =>
                  refine' ps_set9 (i := 3) ?ha ?hb ?hc ?hd ?he ?hf
                  case ha => exact scLaw.nd
                  case hb => exact rfl
                  case hc => exact (Or.inl rfl)
                  case he => exact rfl
                  case hf => exact (.inr rfl)
                  case hd =>
                    refine' pe_call GX hr (by rfl) mX FX.kp bX .nil pass0 ?aa
                    case aa =>
                      refine' pa_n (pv 1) ?a1
                      case a1 =>
                        refine' pa_cons ?d1 ?a2
                        case d1 =>
                          refine' pe_disp (pps_cons pe_str ?dv pps_nil) rfl rfl (by intro z; cases z) (by decide)
                          case dv => exact pe_ix ix_list (pe_lst (pa_k pe_int (pa_k pe_int (pa_k pe_int (pa_k pe_int (pa_k pe_int pa_nil)))))) (pv 2) (fun _ _ => rfl)
                        case a2 =>
                          refine' pa_cons ?d2 ?a3
                          case d2 => exact pe_op op_add pe_int (pe_call GD hr1 (by rfl) U.mD U.D.kp U.bD .nil pass0 (pa_n (pv 1) (pa_k pe_int pa_nil)))
                          case a3 => exact pa_k pe_int pa_nil
              case q2 =>
                refine' pss_cut ?b3 (pss_one ?b4)
                case b3 => exact ps_set (i := 4) scLaw.nd rfl (Or.inl rfl) (pe_callTy call_tuple_of (by rfl) T.tup (by decide +kernel) (pa_cons (pe_callB (call_sorted_set rfl) (by rfl) TL.srt (by decide +kernel) (pa_cons (pe_callTy (call_set1 rfl) (by rfl) TL.set (by decide +kernel) (pa_c (pe_call GA hr (by rfl) mA FA.kp bA .nil pass0 (pa_n (pv 3) pa_nil)) pa_nil)) pa_nil)) pa_nil))
                case b4 =>
                  refine' ps_for PassesOwn.never rfl (pi_range1 (by rfl) U.T.range (pa_k pe_int pa_nil)) (pg_name (i := 5) scLaw.nd rfl (Or.inl rfl)) ?blk2
                  case blk2 =>
                    refine' pss_cons ?c1 ?p1
                    case c1 => exact ps_set (i := 6) scLaw.nd rfl (Or.inl rfl) (pe_call GL hr3 (by rfl) mL FL.kp bL .nil pass0 (pa_n (pv 3) pa_nil))
                    case p1 =>
                      refine' pss_cons ?c2 (pss_one ?c3)
                      case c2 =>
                        refine' ps_if ?c (pss_one (ps_ret pe_bl)) pss_nil
                        case c => exact (pw_or (pt_not (pt_val (pe_callB call_isinst (by rfl) T.isi (by decide +kernel) (pa_n (pv 6) (pa_n (pe_bltn (v := .ty "tuple") (by rfl) T.tup (by decide +kernel) rfl) pa_nil))))) (pw_or1 (pt_cmpR (op_ne_tup 0 hu) (pv 6) (pv 4) (nomark _)))).pt
                      case c3 =>
                        refine' ps_if ?c (pss_one (ps_ret pe_bl)) pss_nil
                        case c =>
                          refine' pt_cmpR (op_ne_list hu0) ?x (pe_lst pa_nil) (nomark _)
                          case x =>
                            refine' pe_comp (N' := ["_law_one"]) (src := [none]) ?k1 ?k5 ?k6 ?k7
                            case k1 => rfl
                            case k5 => exact compScope_of (defScope sLaw) rfl ["_law_script", "_law_feed_here", "_law_turn", "_law_form_here", "_law_due", "_law_again", "_law_found"] rfl (by decide +kernel)
                            case k6 => exact pi_tup (pv 6)
                            case k7 => exact fun cl C ex s0 H0 => ⟨pg_name (i := 0) (nd1 _) rfl (Or.inl rfl), pts_one (pw_or (pt_not (pt_val (pe_callB (id := "isinstance") (call_isinstK (K := K) rfl) (by rfl) T.isi (by decide +kernel) (pa_n (pv 0) (pa_n (pe_bltn (v := .ty "int") (by rfl) T.int (by decide +kernel) rfl) pa_nil))))) (pw_or1 (pt_val (pe_callB (id := "isinstance") (call_isinstK (K := K) rfl) (by rfl) T.isi (by decide +kernel) (pa_n (pv 0) (pa_n (pe_bltn (v := .ty "bool") (by rfl) T.bl (by decide +kernel) rfl) pa_nil)))))).pt, pv 0⟩
        case s3 => exact ps_ret pe_bl
    case fin =>
      refine ⟨_, rfl, a, ns, rfl, hS, hlen, fun d l H1 F1 _ s1 => ?_⟩
      refine ⟨5, rfl, by decide, by decide, for_range (lo := 0) (n := 5) (fun i σ H' => ∃ (n' : Nat) (o2 o3 o4 o5 o6 : Option V), σ = [some (.ref a), some (.ref d), o2, o3, o4, o5, o6] ∧ n' ≤ i * 50000000 ∧ Feed H' d l ns n')
        ⟨0, none, none, none, none, none, rfl, by omega, F1⟩ ?_ ?_⟩
      · rintro i σ H2 hi ⟨n2, o2, o3, o4, o5, o6, rfl, hn2, F2⟩
        refine ⟨fun σ' H' => ∃ (v : V) (t : Th) (n' : Nat), σ' = [some (.ref a), some (.ref d), some (.int (0 + i)), some v, o4, o5, o6] ∧ IsTh H' v t ∧ OwT 11 t ∧ cnt t < 128 ∧ Th.sz t ≤ 3 * cnt t ∧ n' ≤ n2 + 60 ∧ Feed H' d l ns n', ?_, ?_⟩
        · exact ⟨_, rfl, d, l, ns, n2, rfl, F2, by omega, fun v t n3 H3 ht ow ct zt hn3 F3 b3 => ⟨v, t, n3, rfl, ht, ow, by omega, zt, hn3, F3⟩⟩
        clear F2
        rintro σ3 H3 ⟨v0, t0, n3, rfl, ht0, ow0, ct0, zt0, hn3, F3⟩
        refine ⟨fun σ' H' => ∃ (v : V) (t : Th) (n' : Nat), σ' = [some (.ref a), some (.ref d), some (.int (0 + i)), some v, o4, o5, o6] ∧ IsTh H' v t ∧ OwT 11 t ∧ cnt t < 128 ∧ Th.sz t ≤ 3 * cnt t ∧ n' ≤ n2 + 50000000 ∧ Feed H' d l ns n', ?_, ?_⟩
        · refine ⟨_, rfl, _, _, rfl, rfl, _, rfl, ite2 (fun g => ?_) (fun g => ⟨v0, t0, n3, rfl, ht0, ow0, ct0, zt0, by omega, F3⟩)⟩
          refine ⟨_, rfl, fun p hp => ?_⟩
          have sp := same_upd (o := .dK []) hp
          refine ⟨(by show 5 ≤ sizeLine; decide), fun c hc => ?_⟩
          have sc := same_upd (o := .lst [.int 0, .int 15, .int 40, .int 60, .int 25]) hc
          obtain ⟨x, hx, hat⟩ := at_in (xs := [V.int 0, .int 15, .int 40, .int 60, .int 25]) (i := 0 + (i : Int)) (by omega) (by show 0 + (i : Int) < 5; omega)
          have hxi : ∃ rm : Int, x = .int rm ∧ 0 ≤ rm ∧ rm ≤ 60 := by
            simp only [List.mem_cons, List.not_mem_nil, or_false] at hx
            rcases hx with rfl | rfl | rfl | rfl | rfl
            · exact ⟨0, rfl, by decide, by decide⟩
            · exact ⟨15, rfl, by decide, by decide⟩
            · exact ⟨40, rfl, by decide, by decide⟩
            · exact ⟨60, rfl, by decide, by decide⟩
            · exact ⟨25, rfl, by decide, by decide⟩
          obtain ⟨rm, rfl, rm0, rm60⟩ := hxi
          have hpc : p ≠ c := fun z => by rw [← z, upd_same] at hc; cases hc
          refine ⟨_, rfl, c, _, _, .int rm, rfl, rfl, SqL.of upd_same, hat, by rw [upd_ne hpc]; exact upd_same, roomKV rm, rfl, by show 1 ≤ 15; decide, ?_⟩
          have em : mergeK [] (roomKV rm) = roomKV rm := by with_unfolding_all rfl
          rw [em]
          have F4 : Feed (upd (upd (upd H3 p (.dK [])) c (.lst [.int 0, .int 15, .int 40, .int 60, .int 25])) p (.dK (roomKV rm))) d l ns n3 := by
            refine F3.same fun b o e => ?_
            rw [upd_ne (ne_of_none e hp)]
            exact sc _ _ (sp _ _ e)
          have W4 : upd (upd (upd H3 p (.dK [])) c (.lst [.int 0, .int 15, .int 40, .int 60, .int 25])) p (.dK (roomKV rm)) p = some (.dK (roomKV rm)) := upd_same
          generalize upd (upd (upd H3 p (.dK [])) c (.lst [.int 0, .int 15, .int 40, .int 60, .int 25])) p (.dK (roomKV rm)) = H4 at F4 W4 ⊢
          have hc9 := cD9
          refine ⟨_, rfl, d, l, ns, n3, _, rfl, F4, by omega, by decide, by decide, fun q n5 H5 q0 q1 hn5 F5 b5 => ⟨_, _, rfl, rfl, ?_⟩⟩
          refine ⟨d, l, p, ns, n5, rm, 3 + q, 0, rfl, by decide, by decide, by omega, F5, by omega, b5 p _ W4 (room_ne F4 W4), by omega, by omega, by decide, fun v t n6 r6 H6 ht ow ct zt lb hn6 F6 W6 b6 => ?_⟩
          exact ⟨v, t, n6, rfl, ht, ow.le (by decide), by omega, zt, by omega, F6⟩
        clear ht0 F3
        rintro σ4 H4 ⟨v, t, n4, rfl, ht4, ow, ct, zt, hn4, F4⟩
        have has := (as_nn 11 t ow).2
        have hol := ofL_len (asT t)
        refine ⟨fun σ' H' => ∃ (du : Addr) (nd : List Int), σ' = [some (.ref a), some (.ref d), some (.int (0 + i)), some v, some (.ref du), o5, o6] ∧ IsTh H' v t ∧ H' du = some (.tup (nd.map V.int)) ∧ Told t nd ∧ Feed H' d l ns n4, ?_, ?_⟩
        · refine ⟨_, rfl, v, t, rfl, ht4, ow, by omega, by omega, fun p H5 s5 hp L5 => ?_⟩
          refine ⟨p, asT t, rfl, SqL.of L5, by omega, fun sa hsa => ?_⟩
          have s6 := same_upd (o := setO P w sa (ofL (asT t))) hsa
          refine ⟨sa, ofL (asT t), rfl, upd_same, by omega, fun nd q pm st hq => ?_⟩
          have s7 := same_upd (o := .lst (nd.map V.int)) hq
          refine ⟨q, _, rfl, .inl ⟨SqL.of upd_same, fun du hdu => ?_⟩⟩
          have s8 := same_upd (o := .tup (nd.map V.int)) hdu
          have sA := ((s5.trans s6).trans s7).trans s8
          exact ⟨du, nd, rfl, IsTh.kp (Kp.of sA) ht4, upd_same, ⟨pm, st⟩, F4.same sA⟩
        clear ht4 F4
        rintro σ5 H5 ⟨du, nd, rfl, ht5, D5, told5, F5⟩
        refine ⟨2, rfl, by decide, by decide, for_range (lo := 0) (n := 2) (fun j σ H' => ∃ (o5 o6 : Option V), σ = [some (.ref a), some (.ref d), some (.int (0 + i)), some v, some (.ref du), o5, o6] ∧ IsTh H' v t ∧ H' du = some (.tup (nd.map V.int)) ∧ Feed H' d l ns n4)
          ⟨o5, o6, rfl, ht5, D5, F5⟩ ?_ ?_⟩
        · rintro j σ H6 hj ⟨o5, o6, rfl, ht6, D6, F6⟩
          refine ⟨_, rfl, v, t, rfl, ht6, ow, by omega, ct, fun p nf H7 s7 L7 told7 => ?_⟩
          have D7 := s7 _ _ D6
          have ht7 := IsTh.kp (Kp.of s7) ht6
          have F7 := F6.same s7
          obtain rfl : nf = nd := one_way told7.1 told5.1 told7.2 told5.2
          refine ⟨_, rfl, _, _, _, _, rfl, .tup L7, TM.tt, _, rfl, iteF ?_⟩
          refine ⟨_, rfl, _, rfl, p, du, _, _, _, _, rfl, rfl, SqT.of L7, pvs_ints nf, SqT.of D7, pvs_ints nf, _, rfl, ite2 (fun g => absurd g (by rw [if_pos rfl, same_ints]; decide)) (fun _ => ?_)⟩
          refine ⟨_, rfl, p, rfl, ⟨_, SqT.of L7⟩, comp_tup (K := K) (a := p) (xs := nf.map V.int) (fun i ys σc H' => ∃ o, σc = [o] ∧ ys = [] ∧ H' = H7) ⟨none, rfl, rfl, rfl⟩ (fun i ys σc H' ⟨_, _, _, e⟩ => by rw [e]; exact SqT.of L7) ?_ ?_⟩
          · rintro i2 x ys σc H' hx hi2 ⟨o, rfl, rfl, rfl⟩
            obtain ⟨m, hm, rfl⟩ := List.mem_map.mp (List.mem_of_getElem? hx)
            refine ⟨by show 0 < sizeLine; decide, ?_⟩
            refine ⟨_, rfl, _, _, _, _, rfl, .int m, TM.ii, _, rfl, iteF ?_⟩
            refine ⟨_, rfl, _, _, _, _, rfl, .int m, TM.ib, _, rfl, iteF ?_⟩
            exact nx hi2 ⟨_, rfl, rfl, rfl⟩
          · rintro ys σc H' ⟨o, rfl, rfl, rfl⟩ l2 hl2
            have z1 := same_upd (o := .lst []) hl2
            refine ⟨Nat.zero_le _, fun e he => ⟨l2, e, [], [], rfl, rfl, SqL.of (same_upd he _ _ upd_same), SqL.of upd_same, rfl, rfl, _, rfl, iteF ?_⟩⟩
            have sA := z1.trans (same_upd (o := .lst []) he)
            exact ⟨_, _, rfl, IsTh.kp (Kp.of sA) ht7, sA _ _ D7, F7.same sA⟩
        · rintro σ H6 ⟨o5, o6, rfl, ht6, D6, F6⟩
          exact ⟨n4, _, _, _, _, _, rfl, by rw [Nat.succ_mul]; omega, F6⟩
      · rintro σ H2 ⟨n2, o2, o3, o4, o5, o6, rfl, hn2, F2⟩
        exact k H2
end
end K09

set_option Elab.async false
set_option linter.all false
set_option maxRecDepth 100000
set_option maxHeartbeats 4000000
namespace K09
open PySem L2 Srt
theorem kits_of {K : PySem.W.Frag} (kt_NoneType_int : PySem.W.kitOne K (.type "NoneType") (.type "int") = some false) (kt_bool_int : PySem.W.kitOne K (.type "bool") (.type "int") = some true) (kt_int_int : PySem.W.kitOne K (.type "int") (.type "int") = some true) (kt_str_int : PySem.W.kitOne K (.type "str") (.type "int") = some false) (kt_tuple_int : PySem.W.kitOne K (.type "tuple") (.type "int") = some false) (kt_list_int : PySem.W.kitOne K (.type "list") (.type "int") = some false) (kt_NoneType_bool : PySem.W.kitOne K (.type "NoneType") (.type "bool") = some false) (kt_bool_bool : PySem.W.kitOne K (.type "bool") (.type "bool") = some true) (kt_int_bool : PySem.W.kitOne K (.type "int") (.type "bool") = some false) (kt_str_bool : PySem.W.kitOne K (.type "str") (.type "bool") = some false) (kt_tuple_bool : PySem.W.kitOne K (.type "tuple") (.type "bool") = some false) (kt_list_bool : PySem.W.kitOne K (.type "list") (.type "bool") = some false) (kt_NoneType_tuple : PySem.W.kitOne K (.type "NoneType") (.type "tuple") = some false) (kt_bool_tuple : PySem.W.kitOne K (.type "bool") (.type "tuple") = some false) (kt_int_tuple : PySem.W.kitOne K (.type "int") (.type "tuple") = some false) (kt_str_tuple : PySem.W.kitOne K (.type "str") (.type "tuple") = some false) (kt_tuple_tuple : PySem.W.kitOne K (.type "tuple") (.type "tuple") = some true) (kt_list_tuple : PySem.W.kitOne K (.type "list") (.type "tuple") = some false) : Kits K := by
  refine ⟨?i, ?b, ?t⟩
  case i =>
    intro H v t h
    cases h with
    | «at» f =>
      cases v with
      | non => exact kt_NoneType_int
      | bl b => exact kt_bool_int
      | int i => exact kt_int_int
      | str x => exact kt_str_int
      | _ => exact absurd (show false = true from f) Bool.false_ne_true
    | tup e r => exact kt_tuple_int
    | lst e r => exact kt_list_int
  case b =>
    intro H v t h
    cases h with
    | «at» f =>
      cases v with
      | non => exact kt_NoneType_bool
      | bl b => exact kt_bool_bool
      | int i => exact kt_int_bool
      | str x => exact kt_str_bool
      | _ => exact absurd (show false = true from f) Bool.false_ne_true
    | tup e r => exact kt_tuple_bool
    | lst e r => exact kt_list_bool
  case t =>
    intro H v t h
    cases h with
    | «at» f =>
      cases v with
      | non => exact kt_NoneType_tuple
      | bl b => exact kt_bool_tuple
      | int i => exact kt_int_tuple
      | str x => exact kt_str_tuple
      | _ => exact absurd (show false = true from f) Bool.false_ne_true
    | tup e r => exact kt_tuple_tuple
    | lst e r => exact kt_list_tuple
theorem all_mk {l : PySem.W.OpenLaw} {w : World} {K : PySem.W.Frag} {h : Heap} {mg : Str → Option Value} {fa f0 f1 f2 f3 f4 f5 f6 f7 f8 f9 f10 f11 : Addr} (X : K.In h) (G : h.Ns mainGlobals mg) (hfa : mg "law" = some (.ref fa))
    {od0 an0 od1 an1 od2 an2 od3 an3 od4 an4 od5 an5 od6 an6 od7 an7 od8 an8 od9 an9 od10 an10 od11 an11 : Option Addr} {sl0 sl1 sl2 sl3 sl4 sl5 sl6 sl7 sl8 sl9 sl10 sl11 : Array (Option Value)} {oc0 kV0 dc0 pm0 cd0 ct0 oc1 kV1 dc1 pm1 cd1 ct1 oc2 kV2 dc2 pm2 cd2 ct2 oc3 kV3 dc3 pm3 cd3 ct3 oc4 kV4 dc4 pm4 cd4 ct4 oc5 kV5 dc5 pm5 cd5 ct5 oc6 kV6 dc6 pm6 cd6 ct6 oc7 kV7 dc7 pm7 cd7 ct7 oc8 kV8 dc8 pm8 cd8 ct8 oc9 kV9 dc9 pm9 cd9 ct9 oc10 kV10 dc10 pm10 cd10 ct10 oc11 kV11 dc11 pm11 cd11 ct11 : Value} {tkN tkO tkC : Tok}
    (a0 : PySem.W.nsIn K mainGlobals "parts" = some (some (.ref f0))) (l0 : K.lookup f0 = some ⟨oc0, od0, .func (PySem.W.fnOf "parts" "parts" (defArgs sParts) (defBody sParts) (defScope sParts) .none kV0 dc0 pm0 an0 cd0 ct0), sl0⟩) (c0 : PySem.W.codeIn K cd0 "parts" = true) (k0 : PySem.W.keepIn K (.ref f0) = true)
    (a1 : PySem.W.nsIn K mainGlobals "steps" = some (some (.ref f1))) (l1 : K.lookup f1 = some ⟨oc1, od1, .func (PySem.W.fnOf "steps" "steps" (defArgs sSteps) (defBody sSteps) (defScope sSteps) .none kV1 dc1 pm1 an1 cd1 ct1), sl1⟩) (c1 : PySem.W.codeIn K cd1 "steps" = true) (k1 : PySem.W.keepIn K (.ref f1) = true)
    (a2 : PySem.W.nsIn K mainGlobals "loose" = some (some (.ref f2))) (l2 : K.lookup f2 = some ⟨oc2, od2, .func (PySem.W.fnOf "loose" "loose" (defArgs sLoose) (defBody sLoose) (defScope sLoose) .none kV2 dc2 pm2 an2 cd2 ct2), sl2⟩) (c2 : PySem.W.codeIn K cd2 "loose" = true) (k2 : PySem.W.keepIn K (.ref f2) = true)
    (a3 : PySem.W.nsIn K mainGlobals "_law_feed" = some (some (.ref f3))) (l3 : K.lookup f3 = some ⟨oc3, od3, .func (PySem.W.fnOf "_law_feed" "_law_feed" (defArgs sFeed) (defBody sFeed) (defScope sFeed) .none kV3 dc3 pm3 an3 cd3 ct3), sl3⟩) (c3 : PySem.W.codeIn K cd3 "_law_feed" = true) (k3 : PySem.W.keepIn K (.ref f3) = true)
    (a4 : PySem.W.nsIn K mainGlobals "_law_draw" = some (some (.ref f4))) (l4 : K.lookup f4 = some ⟨oc4, od4, .func (PySem.W.fnOf "_law_draw" "_law_draw" (defArgs sDraw) (defBody sDraw) (defScope sDraw) .none kV4 dc4 pm4 an4 cd4 ct4), sl4⟩) (c4 : PySem.W.codeIn K cd4 "_law_draw" = true) (k4 : PySem.W.keepIn K (.ref f4) = true)
    (a5 : PySem.W.nsIn K mainGlobals "_law_value" = some (some (.ref f5))) (l5 : K.lookup f5 = some ⟨oc5, od5, .func (PySem.W.fnOf "_law_value" "_law_value" (defArgs sLawValue) (defBody sLawValue) (defScope sLawValue) .none kV5 dc5 pm5 an5 cd5 ct5), sl5⟩) (c5 : PySem.W.codeIn K cd5 "_law_value" = true) (k5 : PySem.W.keepIn K (.ref f5) = true)
    (a6 : PySem.W.nsIn K mainGlobals "_law_parts" = some (some (.ref f6))) (l6 : K.lookup f6 = some ⟨oc6, od6, .func (PySem.W.fnOf "_law_parts" "_law_parts" (defArgs sLawParts) (defBody sLawParts) (defScope sLawParts) .none kV6 dc6 pm6 an6 cd6 ct6), sl6⟩) (c6 : PySem.W.codeIn K cd6 "_law_parts" = true) (k6 : PySem.W.keepIn K (.ref f6) = true)
    (a7 : PySem.W.nsIn K mainGlobals "_law_own" = some (some (.ref f7))) (l7 : K.lookup f7 = some ⟨oc7, od7, .func (PySem.W.fnOf "_law_own" "_law_own" (defArgs sOwn) (defBody sOwn) (defScope sOwn) .none kV7 dc7 pm7 an7 cd7 ct7), sl7⟩) (c7 : PySem.W.codeIn K cd7 "_law_own" = true) (k7 : PySem.W.keepIn K (.ref f7) = true)
    (a8 : PySem.W.nsIn K mainGlobals "_law_form" = some (some (.ref f8))) (l8 : K.lookup f8 = some ⟨oc8, od8, .func (PySem.W.fnOf "_law_form" "_law_form" (defArgs sForm) (defBody sForm) (defScope sForm) .none kV8 dc8 pm8 an8 cd8 ct8), sl8⟩) (c8 : PySem.W.codeIn K cd8 "_law_form" = true) (k8 : PySem.W.keepIn K (.ref f8) = true)
    (a9 : PySem.W.nsIn K mainGlobals "_law_chain" = some (some (.ref f9))) (l9 : K.lookup f9 = some ⟨oc9, od9, .func (PySem.W.fnOf "_law_chain" "_law_chain" (defArgs sChain) (defBody sChain) (defScope sChain) .none kV9 dc9 pm9 an9 cd9 ct9), sl9⟩) (c9 : PySem.W.codeIn K cd9 "_law_chain" = true) (k9 : PySem.W.keepIn K (.ref f9) = true)
    (a10 : PySem.W.nsIn K mainGlobals "_law_astray" = some (some (.ref f10))) (l10 : K.lookup f10 = some ⟨oc10, od10, .func (PySem.W.fnOf "_law_astray" "_law_astray" (defArgs sAstray) (defBody sAstray) (defScope sAstray) .none kV10 dc10 pm10 an10 cd10 ct10), sl10⟩) (c10 : PySem.W.codeIn K cd10 "_law_astray" = true) (k10 : PySem.W.keepIn K (.ref f10) = true)
    (a11 : PySem.W.nsIn K mainGlobals "law" = some (some (.ref f11))) (l11 : K.lookup f11 = some ⟨oc11, od11, .func (PySem.W.fnOf "law" "law" (defArgs sLaw) (defBody sLaw) (defScope sLaw) .none kV11 dc11 pm11 an11 cd11 ct11), sl11⟩) (c11 : PySem.W.codeIn K cd11 "law" = true) (k11 : PySem.W.keepIn K (.ref f11) = true)
    (q_isinstance : PySem.W.nsIn K mainGlobals "isinstance" = some none)
    (q_int : PySem.W.nsIn K mainGlobals "int" = some none)
    (q_bool : PySem.W.nsIn K mainGlobals "bool" = some none)
    (q_tuple : PySem.W.nsIn K mainGlobals "tuple" = some none)
    (q_len : PySem.W.nsIn K mainGlobals "len" = some none)
    (q_list : PySem.W.nsIn K mainGlobals "list" = some none)
    (q_range : PySem.W.nsIn K mainGlobals "range" = some none)
    (q_max : PySem.W.nsIn K mainGlobals "max" = some none)
    (q_set : PySem.W.nsIn K mainGlobals "set" = some none)
    (q_sorted : PySem.W.nsIn K mainGlobals "sorted" = some none)
    (gN : PySem.W.nsIn K mainGlobals "NODE" = some (some (.str "node" tkN)))
    (gO : PySem.W.nsIn K mainGlobals "OPENED" = some (some (.str "opened" tkO)))
    (gC : PySem.W.nsIn K mainGlobals "CLOSED" = some (some (.str "closed" tkC)))
    (kt_NoneType_int : PySem.W.kitOne K (.type "NoneType") (.type "int") = some false)
    (kt_bool_int : PySem.W.kitOne K (.type "bool") (.type "int") = some true)
    (kt_int_int : PySem.W.kitOne K (.type "int") (.type "int") = some true)
    (kt_str_int : PySem.W.kitOne K (.type "str") (.type "int") = some false)
    (kt_tuple_int : PySem.W.kitOne K (.type "tuple") (.type "int") = some false)
    (kt_list_int : PySem.W.kitOne K (.type "list") (.type "int") = some false)
    (kt_NoneType_bool : PySem.W.kitOne K (.type "NoneType") (.type "bool") = some false)
    (kt_bool_bool : PySem.W.kitOne K (.type "bool") (.type "bool") = some true)
    (kt_int_bool : PySem.W.kitOne K (.type "int") (.type "bool") = some false)
    (kt_str_bool : PySem.W.kitOne K (.type "str") (.type "bool") = some false)
    (kt_tuple_bool : PySem.W.kitOne K (.type "tuple") (.type "bool") = some false)
    (kt_list_bool : PySem.W.kitOne K (.type "list") (.type "bool") = some false)
    (kt_NoneType_tuple : PySem.W.kitOne K (.type "NoneType") (.type "tuple") = some false)
    (kt_bool_tuple : PySem.W.kitOne K (.type "bool") (.type "tuple") = some false)
    (kt_int_tuple : PySem.W.kitOne K (.type "int") (.type "tuple") = some false)
    (kt_str_tuple : PySem.W.kitOne K (.type "str") (.type "tuple") = some false)
    (kt_tuple_tuple : PySem.W.kitOne K (.type "tuple") (.type "tuple") = some true)
    (kt_list_tuple : PySem.W.kitOne K (.type "list") (.type "tuple") = some false) :
    ∃ fd : FuncData, (∀ (s : Shared) (v : Value), BindsTo s fd ⟨[v], []⟩ [("_law_script", v)]) ∧ ∀ base : Heap, K.In base → base.Ns mainGlobals mg → FnOk l.prog w K mg base CX0 14 fa fd ["_law_script"] (spLaw K) := by
  have e := hfa.symm.trans (PySem.W.mg_of X G a11)
  cases e
  have F0 := fun_mk (st := sParts) l0 c0 k0
  have b0 := F0.binds (ps := ["e"]) fun _ _ _ _ _ _ us hl => match us, hl with | [_], _ => rfl
  have m0 := PySem.W.mg_of X G a0
  have F1 := fun_mk (st := sSteps) l1 c1 k1
  have b1 := F1.binds (ps := ["tree"]) fun _ _ _ _ _ _ us hl => match us, hl with | [_], _ => rfl
  have m1 := PySem.W.mg_of X G a1
  have F2 := fun_mk (st := sLoose) l2 c2 k2
  have b2 := F2.binds (ps := ["b"]) fun _ _ _ _ _ _ us hl => match us, hl with | [_], _ => rfl
  have m2 := PySem.W.mg_of X G a2
  have F3 := fun_mk (st := sFeed) l3 c3 k3
  have b3 := F3.binds (ps := ["_law_script"]) fun _ _ _ _ _ _ us hl => match us, hl with | [_], _ => rfl
  have m3 := PySem.W.mg_of X G a3
  have F4 := fun_mk (st := sDraw) l4 c4 k4
  have b4 := F4.binds (ps := ["_law_feed_here", "_law_many"]) fun _ _ _ _ _ _ us hl => match us, hl with | [_, _], _ => rfl
  have m4 := PySem.W.mg_of X G a4
  have F5 := fun_mk (st := sLawValue) l5 c5 k5
  have b5 := F5.binds (ps := ["_law_feed_here"]) fun _ _ _ _ _ _ us hl => match us, hl with | [_], _ => rfl
  have m5 := PySem.W.mg_of X G a5
  have F6 := fun_mk (st := sLawParts) l6 c6 k6
  have b6 := F6.binds (ps := ["_law_e"]) fun _ _ _ _ _ _ us hl => match us, hl with | [_], _ => rfl
  have m6 := PySem.W.mg_of X G a6
  have F7 := fun_mk (st := sOwn) l7 c7 k7
  have b7 := F7.binds (ps := ["_law_feed_here", "_law_over"]) fun _ _ _ _ _ _ us hl => match us, hl with | [_, _], _ => rfl
  have m7 := PySem.W.mg_of X G a7
  have F8 := fun_mk (st := sForm) l8 c8 k8
  have b8 := F8.binds (ps := ["_law_feed_here", "_law_world", "_law_below", "_law_over"]) fun _ _ _ _ _ _ us hl => match us, hl with | [_, _, _, _], _ => rfl
  have m8 := PySem.W.mg_of X G a8
  have F9 := fun_mk (st := sChain) l9 c9 k9
  have b9 := F9.binds (ps := ["_law_feed_here"]) fun _ _ _ _ _ _ us hl => match us, hl with | [_], _ => rfl
  have m9 := PySem.W.mg_of X G a9
  have F10 := fun_mk (st := sAstray) l10 c10 k10
  have b10 := F10.binds (ps := ["_law_b"]) fun _ _ _ _ _ _ us hl => match us, hl with | [_], _ => rfl
  have m10 := PySem.W.mg_of X G a10
  have F11 := fun_mk (st := sLaw) l11 c11 k11
  have z_isinstance := PySem.W.mg_none_of X G q_isinstance
  have z_int := PySem.W.mg_none_of X G q_int
  have z_bool := PySem.W.mg_none_of X G q_bool
  have z_tuple := PySem.W.mg_none_of X G q_tuple
  have z_len := PySem.W.mg_none_of X G q_len
  have z_list := PySem.W.mg_none_of X G q_list
  have z_range := PySem.W.mg_none_of X G q_range
  have z_max := PySem.W.mg_none_of X G q_max
  have z_set := PySem.W.mg_none_of X G q_set
  have z_sorted := PySem.W.mg_none_of X G q_sorted
  have T0 : Txt0 mg := ⟨z_len, z_list, z_range⟩
  have T : TxtT mg := ⟨z_isinstance, z_int, z_bool, z_tuple, z_len⟩
  have TL : TxtL mg := ⟨z_set, z_sorted⟩
  have TM : TxtM K := ⟨kt_tuple_tuple, kt_int_int, kt_int_bool⟩
  have KI : Kits K := kits_of kt_NoneType_int kt_bool_int kt_int_int kt_str_int kt_tuple_int kt_list_int kt_NoneType_bool kt_bool_bool kt_int_bool kt_str_bool kt_tuple_bool kt_list_bool kt_NoneType_tuple kt_bool_tuple kt_int_tuple kt_str_tuple kt_tuple_tuple kt_list_tuple
  have TD : TxtD mg := ⟨⟨_, PySem.W.mg_of X G gN⟩, ⟨_, PySem.W.mg_of X G gO⟩, ⟨_, PySem.W.mg_of X G gC⟩⟩
  have U : Dr K mg f4 _ := ⟨T0, F4, b4, m4⟩
  refine ⟨PySem.W.fnOf "law" "law" (defArgs sLaw) (defBody sLaw) (defScope sLaw) .none kV11 dc11 pm11 an11 cd11 ct11, fun s v => .of_eq rfl, fun base _ _ => ?_⟩
  have GL := ok_loose (P := l.prog) (w := w) (base := base) F2 T TD TL KI F0 b0 m0 F1 b1 m1 11
  have GC := ok_chain (P := l.prog) (w := w) (base := base) F9 U z_max F7 b7 m7
  have GX := ok_form (P := l.prog) (w := w) (base := base) F8 b8 m8 U T z_max F5 b5 m5 F7 b7 m7 9
  have GA := ok_astray (P := l.prog) (w := w) (base := base) F10 b10 m10 T KI F6 b6 m6 11
  exact ok_law F11 U T TL TM F3 b3 m3 GC F9 b9 m9 GX F8 b8 m8 GA F10 b10 m10 GL F2 b2 m2
theorem walk {l : PySem.W.OpenLaw} {q : Program} {loose : List Str} {XP : (Str → Option Value) → Heap → Prop} {YP : World → Heap → Prop} {d : DefRec} {K : Params → PySem.W.Frag} (hn : l.most = some 63) (hdf : d.params.defaults = [])
    (hY : ∀ (w : World) (h : Heap), YP w h → (K w.params).In h)
    (F : ∀ (w : World) (mg : Str → Option Value) (fa : Addr) (h : Heap), (K w.params).In h → h.Ns mainGlobals mg → mg d.name = some (.ref fa) →
      ∃ fd : FuncData, (∀ (s : Shared) (u : Value), BindsTo s fd ⟨[u], []⟩ [("_law_script", u)]) ∧ ∀ base : Heap, (K w.params).In base → base.Ns mainGlobals mg → FnOk l.prog w (K w.params) mg base CX0 14 fa fd ["_law_script"] (spLaw (K w.params))) :
    PySem.W.WalkO q loose XP YP l.row.toRowW d [] (fun f vs => PySem.call f vs) :=
  L2.walk_of (n := 63) (k := 14) (x := "_law_script") (CX := fun _ => CX0) (sp := fun w => spLaw (K w.params)) hn (by decide) hdf ⟨rfl, rfl, by decide, by decide⟩ hY F (fun _ _ a ns hl _ hS => ⟨a, ns, rfl, hS, hl, fun _ => rfl⟩) fun _ _ _ _ _ z => z
end K09

open PySem PySem.W PyProof.Rows
set_option Elab.async false
set_option maxRecDepth 100000 in
set_option maxHeartbeats 0 in
theorem PySem.Challenge.cw_likepieces_k09_loose_owns_holds : PySem.Challenge.rw_likepieces_k09_loose_owns.Holds := by
  w_on; o_law; k_head; (case hw => w_witness2)
  k_fill
  refine K09.walk (l := PySem.Challenge.rw_likepieces_k09_loose_owns) rfl rfl (fun w h Y => PySem.W.kIn_of Y) ?F
  case F =>
    intro w mg fa h KX G hmg
    refine' K09.all_mk KX G hmg ?a0 ?l0 ?c0 ?k0 ?a1 ?l1 ?c1 ?k1 ?a2 ?l2 ?c2 ?k2 ?a3 ?l3 ?c3 ?k3 ?a4 ?l4 ?c4 ?k4 ?a5 ?l5 ?c5 ?k5 ?a6 ?l6 ?c6 ?k6 ?a7 ?l7 ?c7 ?k7 ?a8 ?l8 ?c8 ?k8 ?a9 ?l9 ?c9 ?k9 ?a10 ?l10 ?c10 ?k10 ?a11 ?l11 ?c11 ?k11 ?q_isinstance ?q_int ?q_bool ?q_tuple ?q_len ?q_list ?q_range ?q_max ?q_set ?q_sorted ?gN ?gO ?gC ?kt_NoneType_int ?kt_bool_int ?kt_int_int ?kt_str_int ?kt_tuple_int ?kt_list_int ?kt_NoneType_bool ?kt_bool_bool ?kt_int_bool ?kt_str_bool ?kt_tuple_bool ?kt_list_bool ?kt_NoneType_tuple ?kt_bool_tuple ?kt_int_tuple ?kt_str_tuple ?kt_tuple_tuple ?kt_list_tuple
    (case a0 => k_is)
    (case l0 => k_is)
    (case c0 => k_is)
    (case k0 => k_is)
    (case a1 => k_is)
    (case l1 => k_is)
    (case c1 => k_is)
    (case k1 => k_is)
    (case a2 => k_is)
    (case l2 => k_is)
    (case c2 => k_is)
    (case k2 => k_is)
    (case a3 => k_is)
    (case l3 => k_is)
    (case c3 => k_is)
    (case k3 => k_is)
    (case a4 => k_is)
    (case l4 => k_is)
    (case c4 => k_is)
    (case k4 => k_is)
    (case a5 => k_is)
    (case l5 => k_is)
    (case c5 => k_is)
    (case k5 => k_is)
    (case a6 => k_is)
    (case l6 => k_is)
    (case c6 => k_is)
    (case k6 => k_is)
    (case a7 => k_is)
    (case l7 => k_is)
    (case c7 => k_is)
    (case k7 => k_is)
    (case a8 => k_is)
    (case l8 => k_is)
    (case c8 => k_is)
    (case k8 => k_is)
    (case a9 => k_is)
    (case l9 => k_is)
    (case c9 => k_is)
    (case k9 => k_is)
    (case a10 => k_is)
    (case l10 => k_is)
    (case c10 => k_is)
    (case k10 => k_is)
    (case a11 => k_is)
    (case l11 => k_is)
    (case c11 => k_is)
    (case k11 => k_is)
    (case q_isinstance => k_is)
    (case q_int => k_is)
    (case q_bool => k_is)
    (case q_tuple => k_is)
    (case q_len => k_is)
    (case q_list => k_is)
    (case q_range => k_is)
    (case q_max => k_is)
    (case q_set => k_is)
    (case q_sorted => k_is)
    (case gN => k_is)
    (case gO => k_is)
    (case gC => k_is)
    (case kt_NoneType_int => first | k_is | rfl | decide)
    (case kt_bool_int => first | k_is | rfl | decide)
    (case kt_int_int => first | k_is | rfl | decide)
    (case kt_str_int => first | k_is | rfl | decide)
    (case kt_tuple_int => first | k_is | rfl | decide)
    (case kt_list_int => first | k_is | rfl | decide)
    (case kt_NoneType_bool => first | k_is | rfl | decide)
    (case kt_bool_bool => first | k_is | rfl | decide)
    (case kt_int_bool => first | k_is | rfl | decide)
    (case kt_str_bool => first | k_is | rfl | decide)
    (case kt_tuple_bool => first | k_is | rfl | decide)
    (case kt_list_bool => first | k_is | rfl | decide)
    (case kt_NoneType_tuple => first | k_is | rfl | decide)
    (case kt_bool_tuple => first | k_is | rfl | decide)
    (case kt_int_tuple => first | k_is | rfl | decide)
    (case kt_str_tuple => first | k_is | rfl | decide)
    (case kt_tuple_tuple => first | k_is | rfl | decide)
    (case kt_list_tuple => first | k_is | rfl | decide)

