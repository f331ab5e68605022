import PyProof.Rows.All
import Wide.All
import OpenK.AllK
import Wide.FinOn
import Lean
import PyProof.EqAt
import PyProof.EqKinds
import PyProof.TupleCall
import PySem.Challenge.RW_ringlayers_k02_whole_texts
set_option Elab.async false
set_option linter.all false
set_option maxRecDepth 100000
/-! THE HAND LAYER, for ints, bools, texts, own classes, LISTS and tuples (index, slices, in, append, pop ..), calls, loops. Paste it whole ahead of your own text; what your proof does not reach may be deleted. -/
namespace L2
open PySem PySem.Spec PyProof.Rows

/-- a key: an int or a str -/
abbrev Key := Sum Int Str
def keyIs : Key → Value → Bool
  | .inl k, v => Value.isInt k v
  | .inr x, v => Value.isStrOf x v
def keyH (w : World) : Key → Int
  | .inl k => hashInt k
  | .inr x => hashStr w x
theorem keyIs_shape : ∀ {k : Key} {v : Value}, keyIs k v = true → (∃ i t, k = Sum.inl i ∧ v = Value.int i t) ∨ (∃ x t, k = Sum.inr x ∧ v = Value.str x t)
  | .inl i, v, h => by
    obtain ⟨t, e⟩ := Value.isInt_shape (k := i) (v := v) h
    exact .inl ⟨i, t, rfl, e⟩
  | .inr x, v, h => by
    obtain ⟨t, e⟩ := Value.isStrOf_shape (x := x) (v := v) h
    exact .inr ⟨x, t, rfl, e⟩
theorem keyIs_int (i : Int) (t : Tok) : keyIs (.inl i) (.int i t) = true := by simp [keyIs, Value.isInt]
theorem keyIs_str (x : Str) (t : Tok) : keyIs (.inr x) (.str x t) = true := by simp [keyIs, Value.isStrOf]
theorem key_ll (a b : Int) : decide ((Sum.inl a : Key) = Sum.inl b) = (a == b) := by
  by_cases e : a = b
  · subst e; simp
  · have h : ¬ (Sum.inl a : Key) = Sum.inl b := fun q => e (Sum.inl.inj q)
    rw [decide_eq_false h]
    exact (beq_eq_false_iff_ne.mpr e).symm
theorem key_rr (a b : Str) : decide ((Sum.inr a : Key) = Sum.inr b) = decide (a = b) := by
  by_cases e : a = b
  · subst e; simp
  · have h : ¬ (Sum.inr a : Key) = Sum.inr b := fun q => e (Sum.inr.inj q)
    rw [decide_eq_false h, decide_eq_false e]
theorem key_lr (a : Int) (b : Str) : decide ((Sum.inl a : Key) = Sum.inr b) = false := decide_eq_false (fun q => nomatch q)
theorem key_rl (a : Str) (b : Int) : decide ((Sum.inr a : Key) = Sum.inl b) = false := decide_eq_false (fun q => nomatch q)

def mixKind (prog : Program) (w : World) : PySem.KeyKind prog w Key where
  is := keyIs
  hash := keyH w
  inj := fun v a b ha hb => by
    rcases keyIs_shape ha with ⟨i, t, rfl, rfl⟩ | ⟨x, t, rfl, rfl⟩
    · rcases keyIs_shape hb with ⟨j, u, rfl, e⟩ | ⟨y, u, rfl, e⟩
      · injection e with e1 _; rw [e1]
      · exact nomatch e
    · rcases keyIs_shape hb with ⟨j, u, rfl, e⟩ | ⟨y, u, rfl, e⟩
      · exact nomatch e
      · injection e with e1 _; rw [e1]
  byValue := fun k v h => by
    rcases keyIs_shape h with ⟨i, t, rfl, rfl⟩ | ⟨x, t, rfl, rfl⟩ <;> rfl
  pyHash := fun hv h => by
    rcases keyIs_shape hv with ⟨i, t, rfl, rfl⟩ | ⟨x, t, rfl, rfl⟩
    · exact wpAny_pyHash_int h
    · exact wpAny_pyHash_str h
  eqBool := fun hu hv h => by
    rcases keyIs_shape hu with ⟨i, t, rfl, rfl⟩ | ⟨x, t, rfl, rfl⟩
    · rcases keyIs_shape hv with ⟨j, u, rfl, rfl⟩ | ⟨y, u, rfl, rfl⟩
      · rw [key_ll] at h; exact wpAny_eqBool_int h
      · rw [key_lr] at h; exact SeqAt.EqAt.int_str i t y u _ _ _ _ h
    · rcases keyIs_shape hv with ⟨j, u, rfl, rfl⟩ | ⟨y, u, rfl, rfl⟩
      · rw [key_rl] at h; exact SeqAt.EqAt.str_int x t j u _ _ _ _ h
      · rw [key_rr] at h; exact wpAny_eqBool_str h
  «strs» := fun k x t v h => by
    rcases keyIs_shape h with ⟨i, u, rfl, e⟩ | ⟨y, u, rfl, e⟩
    · exact nomatch e
    · injection e with e1 _
      subst e1
      cases v <;> rfl

theorem mixKind_is (prog : Program) (w : World) (k : Key) (v : Value) : (mixKind prog w).is k v = keyIs k v := rfl
theorem mixKind_int (prog : Program) (w : World) (i : Int) (t : Tok) : (mixKind prog w).is (.inl i) (.int i t) = true := keyIs_int i t
theorem mixKind_str (prog : Program) (w : World) (x : Str) (t : Tok) : (mixKind prog w).is (.inr x) (.str x t) = true := keyIs_str x t
end L2

namespace L2
open PySem PySem.Spec PyProof.Rows

/-- a value, without the heap -/
inductive V where
  | non | bl (b : Bool) | int (i : Int) | str (x : Str) | byt (b : Array UInt8) | flt (b : UInt64) | ref (a : Addr) | ty (n : String)
  deriving DecidableEq

def RelV : V → Value → Prop
  | .non, u => u = Value.none
  | .bl b, u => u = Value.bool b
  | .int i, u => ∃ t, u = Value.int i t
  | .str x, u => ∃ t, u = Value.str x t
  | .byt b, u => ∃ t, u = Value.bytes b t
  | .flt b, u => ∃ t, u = Value.float b t
  | .ref a, u => u = Value.ref a
  | .ty n, u => u = Value.type n

abbrev Vals : List V → List Value → Prop := Paired RelV
theorem Vals.length {xs : List V} {us : List Value} (r : Vals xs us) : xs.length = us.length := Paired.length r
theorem Vals.get : ∀ {xs : List V} {us : List Value} {i : Nat} {x : V}, Vals xs us → xs[i]? = some x → ∃ u, us[i]? = some u ∧ RelV x u
  | _, _, _, _, .nil, e => by simp at e
  | _, _, 0, _, .cons r _, e => by simp at e; subst e; exact ⟨_, rfl, r⟩
  | _, _, i + 1, x, .cons _ t, e => by
    obtain ⟨u, h1, h2⟩ := Vals.get (i := i) (x := x) t (by simpa using e)
    exact ⟨u, by simpa using h1, h2⟩
theorem Vals.set {x : V} {u : Value} (r : RelV x u) : ∀ {xs : List V} {us : List Value} (i : Nat), Vals xs us → Vals (xs.set i x) (us.set i u)
  | _, _, _, .nil => .nil
  | _, _, 0, .cons _ t => .cons r t
  | _, _, i + 1, .cons q t => .cons q (Vals.set r i t)
theorem Vals.append : ∀ {xs ys : List V} {us ws : List Value}, Vals xs us → Vals ys ws → Vals (xs ++ ys) (us ++ ws)
  | _, _, _, _, .nil, s => s
  | _, _, _, _, .cons r t, s => .cons r (Vals.append t s)
theorem Vals.take : ∀ {xs : List V} {us : List Value} (n : Nat), Vals xs us → Vals (xs.take n) (us.take n)
  | _, _, 0, _ => .nil
  | _, _, _ + 1, .nil => .nil
  | _, _, n + 1, .cons r t => .cons r (Vals.take n t)
theorem Vals.drop : ∀ {xs : List V} {us : List Value} (n : Nat), Vals xs us → Vals (xs.drop n) (us.drop n)
  | _, _, 0, r => r
  | _, _, _ + 1, .nil => .nil
  | _, _, n + 1, .cons _ t => Vals.drop n t
theorem Vals.none_of : ∀ {xs : List V} {us : List Value} {i : Nat}, Vals xs us → xs[i]? = none → us[i]? = none := fun {xs us i} r e => by
  have h1 := r.length
  have h2 : xs.length ≤ i := List.getElem?_eq_none_iff.mp e
  exact List.getElem?_eq_none_iff.mpr (by omega)

def RelO : Option V → Option Value → Prop
  | some v, some u => RelV v u
  | none, none => True
  | _, _ => False
def KV {κ : Type} : List (κ × V) → List (κ × Value) → Prop := Paired fun (p : κ × V) (q : κ × Value) => p.1 = q.1 ∧ RelV p.2 q.2

/-- a key of a dict (00_mix): an int or a text -/
def kV : Key → V
  | .inl i => .int i
  | .inr x => .str x

/-- what stands at a tracked address -/
inductive HO where
  /-- a list -/
  | lst (xs : List V)
  /-- a tuple (never changes) -/
  | tup (xs : List V)
  /-- a dict whose keys are ints and texts; one whose keys are tuples of ints and texts (the empty one is both) -/
  | dK (kvs : List (Key × V)) | dT (kvs : List (List Key × V))
  /-- a set of ints: its members, its size -/
  | set (S : Int → Bool) (n : Nat)
  /-- an instance of the class at C, its dict at dx, its attributes -/
  | ins (C dx : Addr) (fs : List (Str × V))
  /-- the dict of the instance at x -/
  | own (x : Addr)
  /-- the dict of an exception -/
  | xd (fs : List (Str × V))
  /-- a bound method, f of x -/
  | met (f x : Addr)
  /-- a range object lo, lo + 1, .. below hi -/
  | rng (lo hi : Int)
  /-- a thing that is known to the object (the script; a dict while a loop walks it): read, never written while it is so -/
  | frz (o : Obj) (u : HO)
  /-- a code object's table -/
  | tbl (ps : Array Value)
  /-- any other thing, by what is true of its one object (a def of one's own: SetO a S n := HO.ext fun h => ..) -/
  | ext (φ : Heap → Prop)

abbrev Hp := Addr → Option HO
def upd (H : Hp) (a : Addr) (o : HO) : Hp := fun b => if b = a then some o else H b
theorem upd_same {H : Hp} {a : Addr} {o : HO} : upd H a o a = some o := by unfold upd; rw [if_pos rfl]
theorem upd_ne {H : Hp} {a b : Addr} {o : HO} (h : b ≠ a) : upd H a o b = H b := by unfold upd; rw [if_neg h]
theorem upd_upd {H : Hp} {a : Addr} {o u : HO} : upd (upd H a o) a u = upd H a u := by
  funext b; unfold upd; split <;> rfl
/-- two objects of different content stand apart -/
theorem ne_of {H : Hp} {a b : Addr} {o u : HO} (h : H a = some o) (h' : H b = some u) (d : o ≠ u) : a ≠ b := by
  intro e; subst e; rw [h] at h'; exact d (Option.some.inj h')
theorem ne_of_none {H : Hp} {a b : Addr} {o : HO} (h : H a = some o) (h' : H b = none) : a ≠ b := by
  intro e; subst e; rw [h] at h'; cases h'

section
variable (P : Program) (w : World)
def ObjOk (H : Hp) (h : Heap) (a : Addr) : HO → Prop
  | .lst xs => xs.length ≤ sizeLine ∧ ∃ (its : List Value) (n : Nat), Vals xs its ∧ h.get? a = some { cls := .type "list", data := .seq its.toArray n }
  | .tup xs => xs.length ≤ sizeLine ∧ ∃ its : List Value, Vals xs its ∧ IsTup h a its.toArray
  | .dK kvs => kvs.length ≤ sizeLine ∧ (a == sysModules) = false ∧ ∃ vs, KV kvs vs ∧ h.DictOf (mixKind P w) a vs
  | .dT kvs => kvs.length ≤ sizeLine ∧ (a == sysModules) = false ∧ ∃ xs : List (List Key × Addr × Value),
      Paired (fun (p : List Key × V) (q : List Key × Addr × Value) => p.1 = q.1 ∧ H q.2.1 = some (.tup (p.1.map kV)) ∧ RelV p.2 q.2.2) kvs xs ∧
      ∃ o es ep, h.get? a = some o ∧ o.ExactDict ∧ o.data = .dict es ep ∧ es.toList = xs.map (entryOfKey (tupleKind (mixKind P w))) ∧ (xs.map (·.1)).Nodup
  | .set S n => h.SetOf (intKind P w) a S n
  | .ins C dx fs => H dx = some (.own a) ∧ fs.length ≤ 1000 ∧ dx ≠ a ∧ h.get? a = some (PySem.W.instObj C dx) ∧
      ∃ mA, h.Ns1 dx mA ∧ (∀ f, RelO (fs.lookup f) (mA f)) ∧ PySem.Within mA (fs.map (·.1))
  | .own _ => ∃ o, h.get? a = some o
  | .xd fs => ∃ mA, h.Ns1 a mA ∧ ∀ f, RelO (fs.lookup f) (mA f)
  | .rng lo hi => ∃ t u v, h.get? a = some { cls := .type "range", data := .fields #[.int lo t, .int hi u, .int 1 v] }
  | .frz o u => h.get? a = some o ∧ ObjOk H h a u
  | .tbl ps => h.get? a = some { cls := .none, data := .fields ps }
  | .met f x => h.get? a = some (PySem.W.methodObj (.ref f) (.ref x))
  | .ext φ => φ h ∧ (∃ o, h.get? a = some o) ∧ ∀ h1 h2 : Heap, φ h1 → (∀ o, h1.get? a = some o → h2.get? a = some o) → φ h2
/-- the abstract heap is held -/
def HOk (H : Hp) (h : Heap) : Prop := ∀ a o, H a = some o → ObjOk P w H h a o
end

section
variable {P : Program} {w : World} {H H' : Hp} {h h' : Heap} {a : Addr} {o : HO}
theorem ObjOk.lt (x : ObjOk P w H h a o) : a < h.objs.size := by
  cases o with
  | lst xs => obtain ⟨_, _, _, _, e⟩ := x; exact Heap.lt_size e
  | tup xs => obtain ⟨_, _, _, p⟩ := x; exact p.lt
  | dK kvs => obtain ⟨_, _, _, _, o, _, _, e, _⟩ := x; exact Heap.lt_size e
  | dT kvs => obtain ⟨_, _, _, _, o, _, _, e, _⟩ := x; exact Heap.lt_size e
  | set S n => obtain ⟨o, _, _, _, e, _⟩ := x; exact Heap.lt_size e
  | ins C dx fs => obtain ⟨_, _, _, e, _⟩ := x; exact Heap.lt_size e
  | own y => obtain ⟨_, e⟩ := x; exact Heap.lt_size e
  | xd fs => obtain ⟨_, ⟨_, _, _, e, _⟩, _⟩ := x; exact Heap.lt_size e
  | rng lo hi => obtain ⟨_, _, _, e⟩ := x; exact Heap.lt_size e
  | frz ob u => obtain ⟨e, _⟩ := x; exact Heap.lt_size e
  | tbl ps => exact Heap.lt_size (show h.get? a = some _ from x)
  | met f y => exact Heap.lt_size (show h.get? a = some _ from x)
  | ext φ => obtain ⟨_, ⟨_, e⟩, _⟩ := x; exact Heap.lt_size e
theorem Paired.mapP {α β : Type} {F G : α → β → Prop} : ∀ {l₁ : List α} {l₂ : List β}, Paired F l₁ l₂ → (∀ a b, F a b → G a b) → Paired G l₁ l₂
  | _, _, .nil, _ => .nil
  | _, _, .cons r t, f => .cons (f _ _ r) (Paired.mapP t f)
theorem Paired.imp' {α β : Type} {F G : α → β → Prop} (f : ∀ a b, F a b → G a b) {l₁ : List α} {l₂ : List β} (r : Paired F l₁ l₂) : Paired G l₁ l₂ := Paired.mapP r f
/-- what an object's description leans on: its own object, its own dict, the tuples -/
theorem ObjOk.stay (x : ObjOk P w H h a o) (k : ∀ b u, (b = a ∨ H b = some (.own a)) → h.get? b = some u → h'.get? b = some u)
    (ho : ∀ b, H b = some (.own a) → H' b = some (.own a)) (ht : ∀ b xs, H b = some (.tup xs) → H' b = some (.tup xs)) : ObjOk P w H' h' a o := by
  induction o with
  | lst xs => obtain ⟨z, its, n, r, e⟩ := x; exact ⟨z, its, n, r, k _ _ (.inl rfl) e⟩
  | tup xs => obtain ⟨z, its, r, ob, e, c⟩ := x; exact ⟨z, its, r, ob, k _ _ (.inl rfl) e, c⟩
  | dK kvs => obtain ⟨z, y, vs, r, ob, es, ep, e, c⟩ := x; exact ⟨z, y, vs, r, ob, es, ep, k _ _ (.inl rfl) e, c⟩
  | dT kvs =>
    obtain ⟨z, y, xs, r, ob, es, ep, e, c⟩ := x
    exact ⟨z, y, xs, Paired.mapP r fun p q z => ⟨z.1, ht _ _ z.2.1, z.2.2⟩, ob, es, ep, k _ _ (.inl rfl) e, c⟩
  | set S n => obtain ⟨ob, es, ep, t, e, c⟩ := x; exact ⟨ob, es, ep, t, k _ _ (.inl rfl) e, c⟩
  | ins C dx fs =>
    obtain ⟨d, z, ne, e, mA, ⟨od, es, ep, e2, c⟩, r⟩ := x
    exact ⟨ho _ d, z, ne, k _ _ (.inl rfl) e, mA, ⟨od, es, ep, k _ _ (.inr d) e2, c⟩, r⟩
  | own y => obtain ⟨ob, e⟩ := x; exact ⟨ob, k _ _ (.inl rfl) e⟩
  | xd fs => obtain ⟨mA, ⟨od, es, ep, e, c⟩, r⟩ := x; exact ⟨mA, ⟨od, es, ep, k _ _ (.inl rfl) e, c⟩, r⟩
  | rng lo hi => obtain ⟨t, u, v, e⟩ := x; exact ⟨t, u, v, k _ _ (.inl rfl) e⟩
  | frz ob u ih => obtain ⟨e, q⟩ := x; exact ⟨k _ _ (.inl rfl) e, ih q⟩
  | tbl ps =>
    have e : h.get? a = some { cls := .none, data := .fields ps } := x
    show h'.get? a = some { cls := .none, data := .fields ps }
    exact k a _ (.inl rfl) e
  | met f y =>
    have e : h.get? a = some (PySem.W.methodObj (.ref f) (.ref y)) := x
    show h'.get? a = some (PySem.W.methodObj (.ref f) (.ref y))
    exact k a _ (.inl rfl) e
  | ext φ => obtain ⟨p, ⟨o, e⟩, st⟩ := x; exact ⟨st _ _ p fun o q => k _ _ (.inl rfl) q, ⟨o, k _ _ (.inl rfl) e⟩, st⟩
theorem HOk.lt (x : HOk P w H h) (e : H a = some o) : a < h.objs.size := (x a o e).lt
theorem HOk.fresh (x : HOk P w H h) (e : h.objs.size ≤ a) : H a = none := by
  cases q : H a with
  | none => rfl
  | some u => exact absurd (Nat.lt_of_lt_of_le (x.lt q) e) (Nat.lt_irrefl _)
/-- every object of the heap is kept -/
theorem HOk.kept (x : HOk P w H h) (k : ∀ b u, h.get? b = some u → h'.get? b = some u) : HOk P w H h' := fun a o e =>
  (x a o e).stay (fun b u _ q => k b u q) (fun _ q => q) fun _ _ q => q
/-- a new object is laid and tracked -/
theorem HOk.laid (x : HOk P w H h) (k : ∀ b u, h.get? b = some u → h'.get? b = some u) (hp : h.objs.size ≤ a) (new : ObjOk P w (upd H a o) h' a o) : HOk P w (upd H a o) h' := fun b u e => by
  have hn := x.fresh hp
  by_cases hb : b = a
  · subst hb; rw [upd_same] at e; cases e; exact new
  · rw [upd_ne hb] at e
    exact (x b u e).stay (fun c v _ q => k c v q) (fun c q => by rw [upd_ne (ne_of_none q hn)]; exact q) fun c xs q => by rw [upd_ne (ne_of_none q hn)]; exact q
end

/-- what may be read as u: it is u, or a known u -/
def Rd (H : Hp) (a : Addr) (u : HO) : Prop := H a = some u ∨ ∃ o, H a = some (.frz o u)
theorem Rd.of {H : Hp} {a : Addr} {u : HO} (h : H a = some u) : Rd H a u := .inl h
theorem Rd.ok {P : Program} {w : World} {H : Hp} {h : Heap} {a : Addr} {u : HO} (r : Rd H a u) (x : HOk P w H h) : ObjOk P w H h a u := by
  rcases r with r | ⟨o, r⟩
  · exact x a u r
  · obtain ⟨_, q⟩ := x a _ r
    exact q
/-- what may be written -/
def Mut : Option HO → Prop
  | some (.lst _) => True
  | some (.dK _) => True
  | some (.dT _) => True
  | some (.set _ _) => True
  | some (.ins _ _ _) => True
  | some (.ext _) => True
  | _ => False
section
variable {P : Program} {w : World} {H : Hp} {h h' : Heap} {x e : Addr} {o' : HO}
/-- the object at e is changed: x itself, or the dict of the instance x -/
theorem HOk.write (ok : HOk P w H h) (mu : Mut (H x)) (he : e = x ∨ H e = some (.own x)) (k : ∀ b u, b ≠ e → h.get? b = some u → h'.get? b = some u) (heo : ∃ u, h'.get? e = some u)
    (new : ObjOk P w (upd H x o') h' x o') : HOk P w (upd H x o') h' := fun b u q => by
  have nown : ∀ c y, H c = some (.own y) → c ≠ x := fun c y r z => by subst z; rw [r] at mu; exact mu
  have ntup : ∀ c xs, H c = some (.tup xs) → c ≠ x := fun c xs r z => by subst z; rw [r] at mu; exact mu
  by_cases hb : b = x
  · subst hb; rw [upd_same] at q; cases q; exact new
  · rw [upd_ne hb] at q
    by_cases hbe : b = e
    · have q' : H b = some (.own x) := by
        rcases he with z | z
        · exact absurd (hbe.trans z) hb
        · rw [hbe]; exact z
      rw [q] at q'; cases q'
      obtain ⟨v, hv⟩ := heo
      exact ⟨v, by rw [hbe]; exact hv⟩
    · refine (ok b u q).stay (fun c v hc r => k c v ?_ r) (fun c r => by rw [upd_ne (nown c b r)]; exact r) fun c xs r => by rw [upd_ne (ntup c xs r)]; exact r
      rcases hc with rfl | hc
      · exact hbe
      · rintro rfl
        rcases he with z | z
        · exact nown c b hc z
        · rw [hc] at z; cases z; exact hb rfl
end

/-! ### kept unless tracked; of the frames at fs (the callers') the slots may change (an exception that passes writes there); of the records at ex (iterators) nothing is said -/
structure Un (fs ex : List Addr) (H H' : Hp) (h h' : Heap) : Prop where
  keep : ∀ b o, h.get? b = some o → H b = none → b ∉ fs → b ∉ ex → h'.get? b = some o
  slot : ∀ b o, h.get? b = some o → H b = none → b ∈ fs → b ∉ ex → ∃ sl, h'.get? b = some { o with slots := sl }
  free : ∀ b o, h.get? b = some o → H b = none → b ∉ ex → H' b = none
  there : ∀ b o, h.get? b = some o → b ∉ ex → ∃ o', h'.get? b = some o'
  tups : ∀ b xs, H b = some (.tup xs) → H' b = some (.tup xs)
  frzs : ∀ b o u, H b = some (.frz o u) → H' b = some (.frz o u)
  tbls : ∀ b ps, H b = some (.tbl ps) → ∃ more, H' b = some (.tbl (ps ++ more))
section
variable {fs fs' ex ex' : List Addr} {H H1 H2 : Hp} {h h1 h2 h' : Heap} {a x e : Addr} {o : HO}
theorem Un.any (u : Un fs ex H H1 h h1) {b : Addr} {ob : Obj} (q : h.get? b = some ob) (n : H b = none) (hx : b ∉ ex) : ∃ sl, h1.get? b = some { ob with slots := sl } := by
  by_cases hb : b ∈ fs
  · exact u.slot b ob q n hb hx
  · exact ⟨ob.slots, u.keep b ob q n hb hx⟩
theorem Un.trans (a : Un fs ex H H1 h h1) (b : Un fs ex H1 H2 h1 h2) : Un fs ex H H2 h h2 where
  keep := fun c ob q n hc hx => b.keep c ob (a.keep c ob q n hc hx) (a.free c ob q n hx) hc hx
  slot := fun c ob q n hc hx => by
    obtain ⟨sl, e1⟩ := a.slot c ob q n hc hx
    obtain ⟨sl', e2⟩ := b.slot c _ e1 (a.free c ob q n hx) hc hx
    exact ⟨sl', e2⟩
  free := fun c ob q n hx => by
    obtain ⟨o', e1⟩ := a.there c ob q hx
    exact b.free c o' e1 (a.free c ob q n hx) hx
  there := fun c ob q hx => by
    obtain ⟨o', e1⟩ := a.there c ob q hx
    exact b.there c o' e1 hx
  tups := fun c xs q => b.tups c xs (a.tups c xs q)
  frzs := fun c ob xs q => b.frzs c ob xs (a.frzs c ob xs q)
  tbls := fun c ps q => by
    obtain ⟨m1, e1⟩ := a.tbls c ps q
    obtain ⟨m2, e2⟩ := b.tbls c _ e1
    exact ⟨m1 ++ m2, by rw [e2, Array.append_assoc]⟩
theorem Un.kept (k : ∀ b u, h.get? b = some u → h'.get? b = some u) : Un fs ex H H h h' :=
  ⟨fun b ob q _ _ _ => k b ob q, fun b ob q _ _ _ => ⟨ob.slots, k b ob q⟩, fun _ _ _ n _ => n, fun b ob q _ => ⟨ob, k b ob q⟩, fun _ _ q => q, fun _ _ _ q => q, fun _ ps q => ⟨#[], by rw [q]; simp⟩⟩
theorem Un.refl : Un fs ex H H h h := Un.kept fun _ _ q => q
theorem Un.laid (k : ∀ b u, h.get? b = some u → h'.get? b = some u) (hp : h.objs.size ≤ a) (hn : H a = none) : Un fs ex H (upd H a o) h h' where
  keep := fun b u q _ _ _ => k b u q
  slot := fun b u q _ _ _ => ⟨u.slots, k b u q⟩
  free := fun b u q n _ => by rw [upd_ne (Nat.ne_of_lt (Nat.lt_of_lt_of_le (Heap.lt_size q) hp))]; exact n
  there := fun b u q _ => ⟨u, k b u q⟩
  tups := fun b xs q => by rw [upd_ne (ne_of_none q hn)]; exact q
  frzs := fun b u xs q => by rw [upd_ne (ne_of_none q hn)]; exact q
  tbls := fun b ps q => ⟨#[], by rw [upd_ne (ne_of_none q hn), q]; simp⟩
theorem Un.write (mu : Mut (H x)) (he : e = x ∨ H e = some (.own x)) (k : ∀ b u, b ≠ e → h.get? b = some u → h'.get? b = some u) (heo : ∃ u, h'.get? e = some u) : Un fs ex H (upd H x o) h h' := by
  have hx : ∀ b, H b = none → b ≠ x := fun b n z => by subst z; rw [n] at mu; exact mu
  have hb : ∀ b, H b = none → b ≠ e := fun b n z => by
    subst z
    rcases he with r | r
    · exact hx b n r
    · rw [n] at r; cases r
  have hm : ∀ b u, H b = some u → ¬ Mut (some u) → b ≠ x := fun b u q nm z => by subst z; rw [q] at mu; exact nm mu
  refine ⟨fun b u q n _ _ => k b u (hb b n) q, fun b u q n _ _ => ⟨u.slots, k b u (hb b n) q⟩, fun b u q n _ => by rw [upd_ne (hx b n)]; exact n, fun b u q _ => ?_,
    fun b xs q => by rw [upd_ne (hm b _ q fun z => z)]; exact q, fun b u xs q => by rw [upd_ne (hm b _ q fun z => z)]; exact q, fun b ps q => ⟨#[], by rw [upd_ne (hm b _ q fun z => z), q]; simp⟩⟩
  by_cases hbe : b = e
  · subst hbe; exact heo
  · exact ⟨u, k b u hbe q⟩
theorem Un.mono (u : Un fs ex H H1 h h1) (hs : ∀ b ∈ fs, b ∈ fs') (hx : ∀ b ∈ ex, b ∈ ex') : Un fs' ex' H H1 h h1 :=
  ⟨fun b ob q n hb he => u.keep b ob q n (fun z => hb (hs b z)) fun z => he (hx b z), fun _ _ q n _ he => u.any q n fun z => he (hx _ z), fun b ob q n he => u.free b ob q n fun z => he (hx b z), fun b ob q he => u.there b ob q fun z => he (hx b z), u.tups, u.frzs, u.tbls⟩
end

/-! ### the heap without what is tracked -/
def trk (h : Heap) (H : Hp) : List Addr := (List.range h.objs.size).filter fun a => (H a).isSome
def hidT (h : Heap) (H : Hp) : Heap := PySem.W.hideAll h (trk h H)
theorem hidT_size (h : Heap) (H : Hp) : (hidT h H).objs.size = h.objs.size := PySem.W.hideAll_size _ _
theorem hidT_get {h : Heap} {H : Hp} {b : Addr} {o : Obj} (e : h.get? b = some o) (n : H b = none) : (hidT h H).get? b = some o :=
  PySem.W.hideAll_get _ e fun hm => by
    have q : (H b).isSome = true := (List.mem_filter.mp hm).2
    rw [n] at q; simp at q
theorem of_hidT {h : Heap} {H : Hp} {b : Addr} {o : Obj} (e : (hidT h H).get? b = some o) : h.get? b = some o ∧ H b = none := by
  have e' : h.get? b = some o := PySem.W.of_hideAll (trk h H) e
  refine ⟨e', ?_⟩
  cases q : H b with
  | none => rfl
  | some x =>
    have hm : b ∈ trk h H := List.mem_filter.mpr ⟨List.mem_range.mpr (Heap.lt_size e'), by simp [q]⟩
    have z : (hidT h H).get? b = none := PySem.W.hideAll_none (trk h H) hm
    rw [z] at e; cases e

/-! ### OpenK's ledger, filled with every new object but one -/
def allNews (g h : Heap) (L : Addr) : List (Addr × Obj) := (List.range h.objs.size).filterMap fun a => if a = L ∨ (g.get? a).isSome = true then none else (h.get? a).map fun o => (a, o)
theorem mem_allNews {g h : Heap} {L a : Addr} {o : Obj} (h1 : a ≠ L) (h2 : g.get? a = none) (h3 : h.get? a = some o) : (a, o) ∈ allNews g h L :=
  List.mem_filterMap.mpr ⟨a, List.mem_range.mpr (Heap.lt_size h3), by simp [h1, h2, h3]⟩
theorem of_mem_allNews {g h : Heap} {L : Addr} {p : Addr × Obj} (hp : p ∈ allNews g h L) : p.1 ≠ L ∧ g.get? p.1 = none ∧ h.get? p.1 = some p.2 := by
  obtain ⟨b, _, e⟩ := List.mem_filterMap.mp hp
  split at e
  · cases e
  · rename_i hn
    cases q : h.get? b with
    | none => rw [q] at e; simp at e
    | some u =>
      rw [q] at e
      simp only [Option.map_some, Option.some.injEq] at e
      subst e
      refine ⟨fun z => hn (.inl z), ?_, q⟩
      show g.get? b = none
      cases r : g.get? b with
      | none => rfl
      | some v => exact (hn (.inr (by simp [r]))).elim
def rest (g h : Heap) (L d : Addr) : List (Addr × Obj) := (allNews g h L).filter fun p => decide (p.1 ≠ d)
theorem rest_ne {g h : Heap} {L d : Addr} : ∀ p ∈ rest g h L d, p.1 ≠ d := fun p hp => of_decide_eq_true (List.mem_filter.mp hp).2
theorem mem_rest {g h : Heap} {L d a : Addr} {o : Obj} (h1 : a ≠ L) (h2 : g.get? a = none) (h3 : h.get? a = some o) (h4 : a ≠ d) : (a, o) ∈ rest g h L d :=
  List.mem_filter.mpr ⟨mem_allNews h1 h2 h3, decide_eq_true h4⟩
theorem news_all {g h : Heap} {L : Addr} : News g L h (allNews g h L) := fun p hp => let ⟨a, b, c⟩ := of_mem_allNews hp; ⟨c, a, b⟩
theorem news_at {g h : Heap} {L d : Addr} {o : Obj} (h1 : d ≠ L) (h2 : g.get? d = none) (h3 : h.get? d = some o) : News g L h ((d, o) :: rest g h L d) := fun p hp => by
  rcases List.mem_cons.mp hp with rfl | hp
  · exact ⟨h3, h1, h2⟩
  · exact news_all p (List.mem_filter.mp hp).1
/-- behind a rule that changed d alone: all else but the frame is kept -/
theorem kept_of_news {g h h' : Heap} {L d : Addr} {m : Str → Option Value} (k : ∀ b o, g.get? b = some o → h.get? b = some o) (F : Fr g L h' m) (N : News g L h' (rest g h L d)) :
    ∀ b o, b ≠ L → b ≠ d → h.get? b = some o → h'.get? b = some o := fun b o h1 h2 e => by
  cases q : g.get? b with
  | some u =>
    have := k b u q
    rw [e] at this; cases this
    exact F.keep b _ q
  | none => exact (N (b, o) (mem_rest h1 q e h2)).1
end L2

namespace L2
open PySem PySem.Spec PyProof.Rows

/-- the module's facts, over the base: the heap at the law's entry without what is tracked there -/
structure Mod (K : PySem.W.Frag) (mg : Str → Option Value) (base : Heap) : Prop where
  kin : K.In base
  glob : base.Ns mainGlobals mg
  blt : ∃ mb, base.Ns builtinsNs mb ∧ ∀ x : Str, x ≠ "__name__" → mb x = bootBuiltins x
  nolimit : base.NoLimit

/-- the context: a def's body (or a comprehension's block) running. base: fixed through the whole law; s₀, H₀: the entry; outer: the frames whose slots others may change (a def's callers); stack: all frames that run;
   ex: iterators that were made ahead of the entry and are walked here (a comprehension's); fn: the names whose cells were made at the entry (a def: all; a comprehension's block: its own); calm: not within an except suite; pn: pins that every state bears; xe: what is wanted of an exception that leaves the code -/
structure Cx where
  prog : Program
  w : World
  K : PySem.W.Frag
  mg : Str → Option Value
  base : Heap
  A : Around
  N : List Str
  s₀ : Shared
  H₀ : Hp
  env : Env
  outer : List Env
  stack : List Env
  ex : List Addr
  fn : Str → Bool
  calm : Bool
  pn : List (Addr × Obj)
  xe : Value → Shared → Prop
/-- the callers' frames -/
def frs (l : List Env) : List Addr := l.filterMap (·.frame)
abbrev Cx.fs (X : Cx) : List Addr := frs X.outer

def Vis (sc : Scope) (x : Str) : Prop := sc.names.lookup x = some .local ∨ sc.names.lookup x = some .cell ∨ sc.names.lookup x = some .free
def Loc (sc : Scope) (x : Str) : Prop := sc.names.lookup x = some .local ∨ sc.names.lookup x = some .cell
def Look (env : Env) (h : Heap) (m : Str → Option Value) (x : Str) (u : Value) : Prop :=
  (env.kindOf x = some .local ∧ m x = some u) ∨ ((env.kindOf x = some .cell ∨ env.kindOf x = some .free) ∧ ∃ c, env.cells.lookup x = some c ∧ h.IsCell c (some u))

structure Cx.Ok (X : Cx) : Prop where
  mod : Mod X.K X.mg X.base
  kind : X.env.scope.kind = .function
  glob : X.env.globals = mainGlobals
  blt : X.env.builtins = builtinsNs
  above : X.s₀.heap.objs.size ≤ X.env.locals
  inj : ∀ x y c, X.env.cells.lookup x = some c → X.env.cells.lookup y = some c → x = y
  has : ∀ x, (X.env.kindOf x = some .cell ∨ X.env.kindOf x = some .free) → ∃ c, X.env.cells.lookup x = some c
  cab : ∀ x c, X.fn x = true → X.env.cells.lookup x = some c → X.s₀.heap.objs.size ≤ c
  hd : X.calm = true → X.A.handled = none
  frames : X.A.frames = some X.stack
  stk : X.stack = X.outer ∨ (X.stack = X.env :: X.outer ∧ X.env.frame = some X.env.locals)
  exf : ∀ b ∈ X.ex, b ≠ X.env.locals ∧ ∀ x c, X.env.cells.lookup x = some c → c ≠ b
  bs : ∀ b o, X.base.get? b = some o → X.s₀.heap.get? b = some o ∧ X.H₀ b = none
  bsz : X.base.objs.size ≤ X.s₀.heap.objs.size
  noex : ∀ b o, X.base.get? b = some o → b ∉ X.ex
  exfs : ∀ b ∈ X.ex, b ∉ X.fs
  funs : X.s₀.heap.FunFrames X.base X.outer
  frf : ∀ b ∈ X.fs, X.H₀ b = none

structure Inv (X : Cx) (pins : List (Addr × Obj)) (σ : List (Option V)) (H : Hp) (s : Shared) : Prop where
  ok : X.Ok
  os : s.os = X.s₀.os
  bare : AllBare s.gens
  base : Un X.fs X.ex X.H₀ H X.s₀.heap s.heap
  loc : ∃ m, s.heap.Ns X.env.locals m ∧ ∀ (i : Nat) (x : Str) (v : V), X.N[i]? = some x → σ[i]? = some (some v) → Vis X.env.scope x → ∃ u, RelV v u ∧ Look X.env s.heap m x u
  cell : ∀ x c, X.env.cells.lookup x = some c → ∃ v, s.heap.IsCell c v
  free : H X.env.locals = none
  freeC : ∀ x c, X.env.cells.lookup x = some c → H c = none
  pin : ∀ p ∈ X.pn ++ pins, s.heap.get? p.1 = some p.2 ∧ H p.1 = none ∧ p.1 ≠ X.env.locals ∧ p.1 ∉ X.fs ∧ ∀ v, p.2.data ≠ .cell v
  hok : HOk X.prog X.w H s.heap
  len : σ.length = X.N.length

section
variable {X : Cx} {pins : List (Addr × Obj)} {σ : List (Option V)} {H H' : Hp} {s : Shared} {h' : Heap}

theorem Cx.Ok.nofr (ok : X.Ok) {b : Addr} {o : Obj} (e : X.base.get? b = some o) : b ∉ X.fs := fun hb => by
  have := (ok.funs.mem hb).1
  rw [e] at this; cases this
theorem Inv.bs (I : Inv X pins σ H s) : ∀ b o, X.base.get? b = some o → s.heap.get? b = some o ∧ H b = none := fun b o e =>
  ⟨I.base.keep b o (I.ok.bs b o e).1 (I.ok.bs b o e).2 (I.ok.nofr e) (I.ok.noex b o e), I.base.free b o (I.ok.bs b o e).1 (I.ok.bs b o e).2 (I.ok.noex b o e)⟩
theorem Inv.bk (I : Inv X pins σ H s) : ∀ b o, X.base.get? b = some o → s.heap.get? b = some o := fun b o e => (I.bs b o e).1
theorem Inv.mod (I : Inv X pins σ H s) : Mod X.K X.mg X.base := I.ok.mod
theorem Inv.kIn (I : Inv X pins σ H s) : X.K.In s.heap := I.ok.mod.kin.keeps I.bk
theorem Inv.nolimit (I : Inv X pins σ H s) : s.heap.NoLimit := I.ok.mod.nolimit.keeps I.bk
/-- the frame over the base: for OpenK's rules (K.In X.base is I.mod.kin) -/
theorem Inv.fr (I : Inv X pins σ H s) : ∃ m, Fr X.base X.env.locals s.heap m :=
  let ⟨m, hn, _⟩ := I.loc
  ⟨m, hn, I.bk, Nat.le_trans I.ok.bsz I.ok.above⟩
theorem Inv.lt (I : Inv X pins σ H s) : X.env.locals < s.heap.objs.size := let ⟨_, hn, _⟩ := I.loc; hn.lt
theorem Inv.sz (I : Inv X pins σ H s) : X.s₀.heap.objs.size ≤ s.heap.objs.size := Nat.le_trans I.ok.above (Nat.le_of_lt I.lt)
theorem Inv.nofs (I : Inv X pins σ H s) {a : Addr} (h : s.heap.objs.size ≤ a) : a ∉ X.fs := fun hb => by
  obtain ⟨_, o, ho, _⟩ := I.ok.funs.mem hb
  exact absurd (Nat.lt_of_lt_of_le (Heap.lt_size ho) (Nat.le_trans I.sz h)) (Nat.lt_irrefl _)
theorem Inv.cne (I : Inv X pins σ H s) : ∀ x c, X.env.cells.lookup x = some c → c ≠ X.env.locals := fun x c e z => by
  obtain ⟨v, o, ho, hd⟩ := I.cell x c e
  obtain ⟨m, ⟨o', es, ep, ho', hd', _⟩, _⟩ := I.loc
  rw [z, ho'] at ho; cases ho; rw [hd'] at hd; cases hd
theorem Inv.funs (I : Inv X pins σ H s) : s.heap.FunFrames X.base X.outer := by
  have all : ∀ (l : List Env), (∀ b ∈ frs l, b ∈ X.fs) → X.s₀.heap.FunFrames X.base l → s.heap.FunFrames X.base l := by
    intro l
    induction l with
    | nil => intro _ _; trivial
    | cons env r ih =>
      intro hs hl
      obtain ⟨hk, ⟨L, o, hf, hn, ho, hd⟩, hr⟩ := hl
      have hL : L ∈ X.fs := hs L (by unfold frs; rw [List.filterMap_cons, hf]; exact List.mem_cons_self)
      obtain ⟨sl, e⟩ := I.base.slot L o ho (I.ok.frf L hL) hL fun z => I.ok.exfs L z hL
      exact ⟨hk, ⟨L, _, hf, hn, e, hd⟩, ih (fun b hb => hs b (by unfold frs; rw [List.filterMap_cons, hf]; exact List.mem_cons_of_mem _ hb)) hr⟩
  exact all X.outer (fun _ hb => hb) I.ok.funs

/-- the frames that run, for a call -/
theorem Inv.stack (I : Inv X pins σ H s) : s.heap.FunFrames X.base X.stack := by
  rcases I.ok.stk with e | ⟨e, hf⟩
  · rw [e]; exact I.funs
  · rw [e]
    obtain ⟨m, hn, _⟩ := I.loc
    refine .cons (by rw [I.ok.kind]; decide) hf hn ?_ I.funs
    exact Heap.get?_none_of_le (Nat.le_trans I.ok.bsz I.ok.above)
theorem Inv.stkSub (I : Inv X pins σ H s) : ∀ b ∈ frs X.stack, b ∈ X.env.locals :: X.fs := fun b hb => by
  rcases I.ok.stk with e | ⟨e, hf⟩
  · rw [e] at hb; exact List.mem_cons_of_mem _ hb
  · rw [e] at hb
    unfold frs at hb
    rw [List.filterMap_cons, hf] at hb
    exact hb
theorem Inv.stkFree (I : Inv X pins σ H s) : ∀ b ∈ frs X.stack, H b = none := fun b hb => by
  rcases List.mem_cons.mp (I.stkSub b hb) with e | hb
  · rw [e]; exact I.free
  · obtain ⟨_, o, ho, _⟩ := I.ok.funs.mem hb
    exact I.base.free b o ho (I.ok.frf b hb) fun z => I.ok.exfs b z hb

/-- THE STEP: the untracked objects but the frame and the records at ch are kept (the callers' frames up to slots), the frame's map is kept, the new abstract heap is held -/
theorem Inv.step {g' : Array GenState} {t' : Nat} {d' : Drawn} {ch : List Addr} (I : Inv X pins σ H s)
    (hch : ∀ b ∈ ch, (b ∈ X.ex ∨ X.s₀.heap.objs.size ≤ b) ∧ b ≠ X.env.locals ∧ (∀ x c, X.env.cells.lookup x = some c → c ≠ b) ∧ ∀ p ∈ X.pn ++ pins, p.1 ≠ b)
    (keep : ∀ b o, b ≠ X.env.locals → b ∉ X.fs → b ∉ ch → s.heap.get? b = some o → H b = none → h'.get? b = some o)
    (slot : ∀ b o, b ≠ X.env.locals → b ∈ X.fs → b ∉ ch → s.heap.get? b = some o → H b = none → ∃ sl, h'.get? b = some { o with slots := sl }) (free : ∀ b o, b ∉ ch → s.heap.get? b = some o → H b = none → H' b = none)
    (there : ∀ b o, b ∉ ch → s.heap.get? b = some o → ∃ o', h'.get? b = some o')
    (tups : ∀ b xs, H b = some (.tup xs) → H' b = some (.tup xs)) (frzs : ∀ b o u, H b = some (.frz o u) → H' b = some (.frz o u)) (tbls : ∀ b ps, H b = some (.tbl ps) → ∃ more, H' b = some (.tbl (ps ++ more)))
    (ns : ∀ m, s.heap.Ns X.env.locals m → h'.Ns X.env.locals m) (hok : HOk X.prog X.w H' h') (hg : AllBare g') :
    Inv X pins σ H' { s with heap := h', gens := g', drawn := d', toks := t' } := by
  have neL : ∀ b o, X.s₀.heap.get? b = some o → b ≠ X.env.locals := fun b o e => Nat.ne_of_lt (Nat.lt_of_lt_of_le (Heap.lt_size e) I.ok.above)
  have neC : ∀ b o, X.s₀.heap.get? b = some o → b ∉ X.ex → b ∉ ch := fun b o e hx hb => by
    rcases (hch b hb).1 with z | z
    · exact hx z
    · exact absurd (Nat.lt_of_lt_of_le (Heap.lt_size e) z) (Nat.lt_irrefl _)
  have cellK : ∀ x c, X.env.cells.lookup x = some c → ∀ v, s.heap.IsCell c v → h'.IsCell c v := fun x c e v ⟨o, ho, hd⟩ => by
    have nch : c ∉ ch := fun z => (hch c z).2.2.1 x c e rfl
    by_cases hc : c ∈ X.fs
    · obtain ⟨sl, q⟩ := slot c o (I.cne x c e) hc nch ho (I.freeC x c e)
      exact ⟨_, q, hd⟩
    · exact ⟨o, keep c o (I.cne x c e) hc nch ho (I.freeC x c e), hd⟩
  refine ⟨I.ok, I.os, hg, ⟨fun b o e n hb hx => ?_, fun b o e n hb hx => ?_, fun b o e n hx => ?_, fun b o e hx => ?_, fun b xs e => tups b xs (I.base.tups b xs e), fun b o xs e => frzs b o xs (I.base.frzs b o xs e), fun b ps e => ?_⟩, ?_, fun x c e => ?_, ?_, fun x c e => ?_, fun p hp => ?_, hok, I.len⟩
  · exact keep b o (neL b o e) hb (neC b o e hx) (I.base.keep b o e n hb hx) (I.base.free b o e n hx)
  · obtain ⟨sl, e1⟩ := I.base.slot b o e n hb hx
    obtain ⟨sl', e2⟩ := slot b _ (neL b o e) hb (neC b o e hx) e1 (I.base.free b o e n hx)
    exact ⟨sl', e2⟩
  · obtain ⟨o', e1⟩ := I.base.there b o e hx
    exact free b o' (neC b o e hx) e1 (I.base.free b o e n hx)
  · obtain ⟨o', e1⟩ := I.base.there b o e hx
    exact there b o' (neC b o e hx) e1
  · obtain ⟨m1, e1⟩ := I.base.tbls b ps e
    obtain ⟨m2, e2⟩ := tbls b _ e1
    exact ⟨m1 ++ m2, by rw [e2, Array.append_assoc]⟩
  · obtain ⟨m, hn, hl⟩ := I.loc
    refine ⟨m, ns m hn, fun i x v e1 e2 e3 => ?_⟩
    obtain ⟨u, r, l⟩ := hl i x v e1 e2 e3
    refine ⟨u, r, ?_⟩
    rcases l with l | ⟨k, c, e, z⟩
    · exact .inl l
    · exact .inr ⟨k, c, e, cellK x c e _ z⟩
  · obtain ⟨v, z⟩ := I.cell x c e
    exact ⟨v, cellK x c e v z⟩
  · obtain ⟨m, ⟨o, _, _, ho, _⟩, _⟩ := I.loc
    exact free _ o (fun z => (hch _ z).2.1 rfl) ho I.free
  · obtain ⟨v, o, ho, hd⟩ := I.cell x c e
    exact free c o (fun z => (hch c z).2.2.1 x c e rfl) ho (I.freeC x c e)
  · obtain ⟨e, n, ne, nf, d⟩ := I.pin p hp
    have nch : p.1 ∉ ch := fun z => (hch p.1 z).2.2.2 p hp rfl
    exact ⟨keep p.1 p.2 ne nf nch e n, free p.1 p.2 nch e n, ne, nf, d⟩
/-- .. where the frame's own object is kept too -/
theorem Inv.un {t' : Nat} (I : Inv X pins σ H s) (u : Un X.fs [] H H' s.heap h') (hok : HOk X.prog X.w H' h') : Inv X pins σ H' { s with heap := h', toks := t' } := by
  obtain ⟨m, ⟨o, es, ep, ho, r⟩, _⟩ := id I.loc
  obtain ⟨sl, hL⟩ := u.any ho I.free (by simp)
  exact I.step (g' := s.gens) (d' := s.drawn) (ch := []) (fun _ z => nomatch z) (fun b o _ hb _ e n => u.keep b o e n hb (by simp)) (fun b o _ hb _ e n => u.slot b o e n hb (by simp)) (fun b o _ e n => u.free b o e n (by simp)) (fun b o _ e => u.there b o e (by simp)) u.tups u.frzs u.tbls (fun m' hm => by
    obtain ⟨o', es', ep', ho', r'⟩ := hm
    rw [ho] at ho'; cases ho'
    exact ⟨_, es', ep', hL, r'⟩) hok I.bare
/-- behind a call (or a comprehension's block): the slots of this frame may have changed too, the records at ch may have turned -/
theorem Inv.call {g' : Array GenState} {t' : Nat} {d' : Drawn} {ch : List Addr} (I : Inv X pins σ H s) (u : Un (frs X.stack) ch H H' s.heap h') (hok : HOk X.prog X.w H' h') (hg : AllBare g')
    (hch : ∀ b ∈ ch, (b ∈ X.ex ∨ X.s₀.heap.objs.size ≤ b) ∧ b ≠ X.env.locals ∧ (∀ x c, X.env.cells.lookup x = some c → c ≠ b) ∧ ∀ p ∈ X.pn ++ pins, p.1 ≠ b) :
    Inv X pins σ H' { s with heap := h', gens := g', drawn := d', toks := t' } := by
  obtain ⟨m, ⟨o, es, ep, ho, r⟩, _⟩ := id I.loc
  obtain ⟨sl, hL⟩ := u.any ho I.free fun z => (hch _ z).2.1 rfl
  exact I.step (ch := ch) hch (fun b o hL hb hc e n => u.keep b o e n (fun z => (List.mem_cons.mp (I.stkSub b z)).elim hL hb) hc) (fun b o _ _ hc e n => u.any e n hc) (fun b o hc e n => u.free b o e n hc) (fun b o hc e => u.there b o e hc) u.tups u.frzs u.tbls (fun m' hm => by
    obtain ⟨o', es', ep', ho', r'⟩ := hm
    rw [ho] at ho'; cases ho'
    exact ⟨_, es', ep', hL, r'⟩) hok hg
/-- an untracked record of ours (an iterator) has turned -/
theorem Inv.turned {t' : Nat} {it : Addr} (I : Inv X pins σ H s) (k : ∀ b o, b ≠ it → s.heap.get? b = some o → h'.get? b = some o) (hn : H it = none) (hL : it ≠ X.env.locals)
    (h1 : it ∈ X.ex ∨ X.s₀.heap.objs.size ≤ it) (h2 : ∀ x c, X.env.cells.lookup x = some c → c ≠ it) (h3 : ∀ p ∈ X.pn ++ pins, p.1 ≠ it) : Inv X pins σ H { s with heap := h', toks := t' } := by
  have nit : ∀ b u, H b = some u → b ≠ it := fun b u e z => by rw [z, hn] at e; cases e
  refine I.step (g' := s.gens) (d' := s.drawn) (ch := [it]) (fun b hb => ?_) (fun b o _ _ hc e _ => k b o (fun z => hc (by simp [z])) e) (fun b o _ _ hc e _ => ⟨o.slots, k b o (fun z => hc (by simp [z])) e⟩) (fun _ _ _ _ n => n)
    (fun b o hc e => ⟨o, k b o (fun z => hc (by simp [z])) e⟩) (fun _ _ e => e) (fun _ _ _ e => e) (fun b ps e => ⟨#[], by rw [e]; simp⟩) (fun m hm => ?_) (fun b u e => ?_) I.bare
  · have e : b = it := by simpa using hb
    subst e
    exact ⟨h1, hL, h2, h3⟩
  · obtain ⟨o, es, ep, ho, r⟩ := hm
    exact ⟨o, es, ep, k _ o (Ne.symm hL) ho, r⟩
  · refine (I.hok b u e).stay (fun c v hc q => k c v ?_ q) (fun _ q => q) fun _ _ q => q
    rcases hc with z | z
    · rw [z]; exact nit b u e
    · exact nit c _ z
theorem Inv.tok (I : Inv X pins σ H s) (t : Nat) : Inv X pins σ H { s with toks := t } := I.un (h' := s.heap) (t' := t) Un.refl I.hok
/-- all objects kept -/
theorem Inv.kept {t' : Nat} (I : Inv X pins σ H s) (k : ∀ b u, s.heap.get? b = some u → h'.get? b = some u) : Inv X pins σ H { s with heap := h', toks := t' } := I.un (Un.kept k) (I.hok.kept k)
/-- a new object laid and tracked -/
theorem Inv.laid {a : Addr} {o : HO} {t' : Nat} (I : Inv X pins σ H s) (k : ∀ b u, s.heap.get? b = some u → h'.get? b = some u) (hp : s.heap.objs.size ≤ a) (new : ObjOk X.prog X.w (upd H a o) h' a o) :
    Inv X pins σ (upd H a o) { s with heap := h', toks := t' } := I.un (Un.laid k hp (I.hok.fresh hp)) (I.hok.laid k hp new)
/-- an object written -/
theorem Inv.write {x e : Addr} {o : HO} {t' : Nat} (I : Inv X pins σ H s) (mu : Mut (H x)) (he : e = x ∨ H e = some (.own x)) (k : ∀ b u, b ≠ e → s.heap.get? b = some u → h'.get? b = some u) (heo : ∃ u, h'.get? e = some u)
    (new : ObjOk X.prog X.w (upd H x o) h' x o) : Inv X pins σ (upd H x o) { s with heap := h', toks := t' } := I.un (Un.write mu he k heo) (I.hok.write mu he k heo new)
/-- forgetting slots, pins -/
theorem Inv.weak {σ' : List (Option V)} (I : Inv X pins σ H s) (hl : σ'.length = σ.length) (w : ∀ (i : Nat) v, σ'[i]? = some (some v) → σ[i]? = some (some v)) : Inv X pins σ' H s :=
  ⟨I.ok, I.os, I.bare, I.base, let ⟨m, hn, hl'⟩ := I.loc; ⟨m, hn, fun i x v e1 e2 e3 => hl' i x v e1 (w i v e2) e3⟩, I.cell, I.free, I.freeC, I.pin, I.hok, hl.trans I.len⟩
theorem Inv.pins_of {pins' : List (Addr × Obj)} (I : Inv X pins σ H s) (h : ∀ p ∈ pins', s.heap.get? p.1 = some p.2 ∧ H p.1 = none ∧ p.1 ≠ X.env.locals ∧ p.1 ∉ X.fs ∧ ∀ v, p.2.data ≠ .cell v) : Inv X pins' σ H s :=
  ⟨I.ok, I.os, I.bare, I.base, I.loc, I.cell, I.free, I.freeC, fun p hp => (List.mem_append.mp hp).elim (fun z => I.pin p (List.mem_append_left _ z)) (h p), I.hok, I.len⟩

theorem nodup_ix {N : List Str} (hN : N.Nodup) {i j : Nat} {x : Str} (a : N[i]? = some x) (b : N[j]? = some x) : i = j := by
  obtain ⟨h1, e1⟩ := List.getElem?_eq_some_iff.mp a
  obtain ⟨h2, e2⟩ := List.getElem?_eq_some_iff.mp b
  exact (List.getElem_inj hN).mp (e1.trans e2.symm)

/-- a name is stored; what changed -/
theorem store_ok2 {M : Model} {A : Around} {E : Value → Shared → Prop} {i : Nat} {x : Str} {v : V} {u : Value} {Q : Unit → Shared → Prop} (I : Inv X pins σ H s) (hN : X.N.Nodup) (hi : X.N[i]? = some x) (hx : Loc X.env.scope x) (r : RelV v u)
    (h : ∀ s', Inv X pins (σ.set i (some v)) H s' → (∃ a, Heap.SameBut a s.heap s'.heap ∧ (a = X.env.locals ∨ X.env.cells.lookup x = some a)) → Q () s') (hf : X.fn x = true ∨ X.env.scope.names.lookup x = some .local := by first | exact .inl rfl | exact .inr rfl | assumption) : wpAny M A (storeName X.env x u) Q E s := by
  obtain ⟨m, hn, hl⟩ := id I.loc
  have hcls : (X.env.scope.kind == .class || (X.env.scope.kind == .module && X.env.locals != X.env.globals)) = false := by rw [I.ok.kind]; rfl
  have hiσ : i < σ.length := by rw [I.len]; exact (List.getElem?_eq_some_iff.mp hi).1
  have cne := I.cne
  have tracked : ∀ {a : Addr} {h' : Heap}, (∃ o, s.heap.get? a = some o ∧ H a = none) → Heap.SameBut a s.heap h' → HOk X.prog X.w H h' := fun {a h'} ha hs b ob e => by
    obtain ⟨_, _, hfree⟩ := ha
    refine (I.hok b ob e).stay (fun c w' hc q => (hs.2 c ?_).trans q) (fun _ q => q) fun _ _ q => q
    rintro rfl
    rcases hc with rfl | hc
    · rw [hfree] at e; cases e
    · rw [hfree] at hc; cases hc
  rcases hx with hk | hk
  · refine wpAny_storeName_local hk hn (fun h' hn' hs => ?_) hcls
    obtain ⟨oL, _, _, hoL, _⟩ := id hn
    refine h _ ⟨I.ok, I.os, I.bare, ⟨fun b o e n hb hx => ?_, fun b o e n hb hx => ?_, I.base.free, fun b o e hx => ?_, I.base.tups, I.base.frzs, I.base.tbls⟩, ⟨_, hn', fun j y v' e1 e2 e3 => ?_⟩, fun y c e => ?_, I.free, I.freeC, fun p hp => ?_, tracked ⟨oL, hoL, I.free⟩ hs, by simpa using I.len⟩ ⟨_, hs, .inl rfl⟩
    · exact (hs.2 b (Nat.ne_of_lt (Nat.lt_of_lt_of_le (Heap.lt_size e) I.ok.above))).trans (I.base.keep b o e n hb hx)
    · obtain ⟨sl, e1⟩ := I.base.slot b o e n hb hx
      exact ⟨sl, (hs.2 b (Nat.ne_of_lt (Nat.lt_of_lt_of_le (Heap.lt_size e) I.ok.above))).trans e1⟩
    · obtain ⟨o', e1⟩ := I.base.there b o e hx
      exact ⟨o', (hs.2 b (Nat.ne_of_lt (Nat.lt_of_lt_of_le (Heap.lt_size e) I.ok.above))).trans e1⟩
    · by_cases hj : j = i
      · subst hj
        rw [hi] at e1; cases e1
        rw [List.getElem?_set_self hiσ] at e2
        cases e2
        exact ⟨u, r, .inl ⟨hk, by simp⟩⟩
      · rw [List.getElem?_set_ne (Ne.symm hj)] at e2
        obtain ⟨u', r', q⟩ := hl j y v' e1 e2 e3
        refine ⟨u', r', ?_⟩
        rcases q with ⟨k, e⟩ | ⟨k, c, e, z⟩
        · refine .inl ⟨k, ?_⟩
          have : y ≠ x := fun e => hj (nodup_ix hN e1 (e ▸ hi))
          simp [this, e]
        · exact .inr ⟨k, c, e, z.sameBut hs (cne y c e)⟩
    · obtain ⟨w', z⟩ := I.cell y c e
      exact ⟨w', z.sameBut hs (cne y c e)⟩
    · obtain ⟨e, n, ne, nf, d⟩ := I.pin p hp
      exact ⟨(hs.2 p.1 ne).trans e, n, ne, nf, d⟩
  · have hfn : X.fn x = true := by
      rcases hf with z | z
      · exact z
      · rw [z] at hk; cases hk
    obtain ⟨c, hc⟩ := I.ok.has x (.inl hk)
    obtain ⟨w', z⟩ := I.cell x c hc
    refine wpAny_storeName_cell I.ok.kind hk hc z (fun h' hc' hs => ?_)
    obtain ⟨oc, hoc, hocd⟩ := id z
    refine h { s with heap := h' } ⟨I.ok, I.os, I.bare, ⟨fun b o e n hb hx => ?_, fun b o e n hb hx => ?_, I.base.free, fun b o e hx => ?_, I.base.tups, I.base.frzs, I.base.tbls⟩, ⟨m, hn.sameBut hs (Ne.symm (cne x c hc)), fun j y v' e1 e2 e3 => ?_⟩, fun y c' e => ?_, I.free, I.freeC, fun p hp => ?_, tracked ⟨oc, hoc, I.freeC x c hc⟩ hs, by simpa using I.len⟩ ⟨c, hs, .inr hc⟩
    · exact (hs.2 b (Nat.ne_of_lt (Nat.lt_of_lt_of_le (Heap.lt_size e) (I.ok.cab x c hfn hc)))).trans (I.base.keep b o e n hb hx)
    · obtain ⟨sl, e1⟩ := I.base.slot b o e n hb hx
      exact ⟨sl, (hs.2 b (Nat.ne_of_lt (Nat.lt_of_lt_of_le (Heap.lt_size e) (I.ok.cab x c hfn hc)))).trans e1⟩
    · obtain ⟨o', e1⟩ := I.base.there b o e hx
      exact ⟨o', (hs.2 b (Nat.ne_of_lt (Nat.lt_of_lt_of_le (Heap.lt_size e) (I.ok.cab x c hfn hc)))).trans e1⟩
    · by_cases hj : j = i
      · subst hj
        rw [hi] at e1; cases e1
        rw [List.getElem?_set_self hiσ] at e2
        cases e2
        exact ⟨u, r, .inr ⟨.inl hk, c, hc, hc'⟩⟩
      · rw [List.getElem?_set_ne (Ne.symm hj)] at e2
        obtain ⟨u', r', q⟩ := hl j y v' e1 e2 e3
        refine ⟨u', r', ?_⟩
        rcases q with q | ⟨k, c', e, z'⟩
        · exact .inl q
        · refine .inr ⟨k, c', e, z'.sameBut hs ?_⟩
          rintro rfl
          exact hj (nodup_ix hN e1 (I.ok.inj _ _ _ e hc ▸ hi))
    · by_cases hcc : c' = c
      · subst hcc; exact ⟨_, hc'⟩
      · obtain ⟨w2, z2⟩ := I.cell y c' e
        exact ⟨w2, z2.sameBut hs hcc⟩
    · obtain ⟨e, n, ne, nf, d⟩ := I.pin p hp
      refine ⟨(hs.2 p.1 ?_).trans e, n, ne, nf, d⟩
      intro q
      rw [q, hoc] at e
      have q' : oc = p.2 := Option.some.inj e
      exact d w' (by rw [← q']; exact hocd)
theorem store_ok {M : Model} {A : Around} {E : Value → Shared → Prop} {i : Nat} {x : Str} {v : V} {u : Value} {Q : Unit → Shared → Prop} (I : Inv X pins σ H s) (hN : X.N.Nodup) (hi : X.N[i]? = some x) (hx : Loc X.env.scope x) (r : RelV v u)
    (h : ∀ s', Inv X pins (σ.set i (some v)) H s' → Q () s') (hf : X.fn x = true ∨ X.env.scope.names.lookup x = some .local := by first | exact .inl rfl | exact .inr rfl | assumption) : wpAny M A (storeName X.env x u) Q E s :=
  store_ok2 I hN hi hx r (fun s' I' _ => h s' I') hf
/-- behind a call or a block, the state as it is -/
theorem Inv.call' {s' : Shared} {ch : List Addr} (I : Inv X pins σ H s) (ho : s'.os = s.os) (u : Un (frs X.stack) ch H H' s.heap s'.heap) (hok : HOk X.prog X.w H' s'.heap) (hg : AllBare s'.gens)
    (hch : ∀ b ∈ ch, (b ∈ X.ex ∨ X.s₀.heap.objs.size ≤ b) ∧ b ≠ X.env.locals ∧ (∀ x c, X.env.cells.lookup x = some c → c ≠ b) ∧ ∀ p ∈ X.pn ++ pins, p.1 ≠ b) : Inv X pins σ H' s' := by
  obtain ⟨h', g', d', t', o'⟩ := s'
  have e : o' = s.os := ho
  subst e
  exact I.call (g' := g') (t' := t') (d' := d') u hok hg hch
end

/-! ### the judgements -/
/-- an exception: its class, its own dict's address (where it has one), the abstract heap behind it -/
abbrev XK := Value → Option Addr → Hp → Prop
abbrev St := List (Option V)
abbrev VK := V → Hp → Prop
/-- an expression's reading; a test's; an argument list's -/
abbrev TE := St → Hp → VK → Prop
abbrev TT := St → Hp → (Bool → Hp → Prop) → Prop
abbrev TA := St → Hp → (List V → Hp → Prop) → Prop
/-- what is wanted behind a statement -/
structure Ends where
  nx : St → Hp → Prop
  rt : VK
  bk : St → Hp → Prop := fun _ _ => False
  ct : St → Hp → Prop := fun _ _ => False
abbrev TS := Ends → St → Hp → Prop

def EP (X : Cx) (pins : List (Addr × Obj)) (σ : St) (Q : VK) (u : Value) (s' : Shared) : Prop := ∃ v H', Inv X pins σ H' s' ∧ RelV v u ∧ Q v H'
def TP (X : Cx) (pins : List (Addr × Obj)) (σ : St) (Q : Bool → Hp → Prop) (b : Bool) (s' : Shared) : Prop := ∃ H', Inv X pins σ H' s' ∧ Q b H'
def AP (X : Cx) (pins : List (Addr × Obj)) (σ : St) (Q : List V → Hp → Prop) (us : List Value) (s' : Shared) : Prop := ∃ vs H', Inv X pins σ H' s' ∧ Vals vs us ∧ Q vs H'
def SP (X : Cx) (pins : List (Addr × Obj)) (D : Ends) (f : Flow) (s' : Shared) : Prop :=
  match f with
  | .next => ∃ σ' H', Inv X pins σ' H' s' ∧ D.nx σ' H'
  | .brk => ∃ σ' H', Inv X pins σ' H' s' ∧ D.bk σ' H'
  | .cont => ∃ σ' H', Inv X pins σ' H' s' ∧ D.ct σ' H'
  | .ret u => ∃ v σ' H', Inv X pins σ' H' s' ∧ RelV v u ∧ D.rt v H'

def PE (X : Cx) (e : Expr) (t : TE) : Prop :=
  ∀ (pins : List (Addr × Obj)) (s : Shared) (σ : St) (H : Hp) (Q : VK), Inv X pins σ H s → t σ H Q → wpAny (model X.prog X.w) X.A (eval e X.env) (EP X pins σ Q) X.xe s
def PT (X : Cx) (e : Expr) (t : TT) : Prop :=
  ∀ (pins : List (Addr × Obj)) (s : Shared) (σ : St) (H : Hp) (Q : Bool → Hp → Prop), Inv X pins σ H s → t σ H Q → wpAny (model X.prog X.w) X.A (isTrue e X.env (eval e X.env)) (TP X pins σ Q) X.xe s
/-- a test whatever its 'whole' is (and, or) -/
def PW (X : Cx) (e : Expr) (t : TT) : Prop :=
  ∀ (whole : Sem Value) (pins : List (Addr × Obj)) (s : Shared) (σ : St) (H : Hp) (Q : Bool → Hp → Prop), Inv X pins σ H s → t σ H Q → wpAny (model X.prog X.w) X.A (isTrue e X.env whole) (TP X pins σ Q) X.xe s
theorem PW.pt {X : Cx} {e : Expr} {t : TT} (h : PW X e t) : PT X e t := h _
/-- an argument list (no star), from the left -/
def PA (X : Cx) (es : List Expr) (t : TA) : Prop :=
  ∀ (pos : Pos) (pins : List (Addr × Obj)) (s : Shared) (σ : St) (H : Hp) (Q : List V → Hp → Prop), Inv X pins σ H s → t σ H Q → wpAny (model X.prog X.w) X.A (spliced (backTo pos (starEach es X.env))) (AP X pins σ Q) X.xe s
def PS (X : Cx) (st : Stmt) (t : TS) : Prop :=
  ∀ (pins : List (Addr × Obj)) (s : Shared) (σ : St) (H : Hp) (D : Ends), Inv X pins σ H s → t D σ H → wpAny (model X.prog X.w) X.A (exec st X.env) (SP X pins D) X.xe s
def PSs (X : Cx) (st : List Stmt) (t : TS) : Prop :=
  ∀ (pins : List (Addr × Obj)) (s : Shared) (σ : St) (H : Hp) (D : Ends), Inv X pins σ H s → t D σ H → wpAny (model X.prog X.w) X.A (execs st X.env) (SP X pins D) X.xe s
/-- weaken the end -/
theorem thn {α : Type} {t : Sem α} {Q Q' : α → Shared → Prop} {M : Model} {A : Around} {E : Value → Shared → Prop} {s : Shared} (h : wpAny M A t Q E s) (hQ : ∀ a s, Q a s → Q' a s) : wpAny M A t Q' E s := wpAny_mono h hQ fun _ _ x => x
end L2

namespace L2
open PySem PySem.Spec PyProof.Rows
section
variable {X : Cx}

/-- two expressions in a row -/
theorem bin {a b : Expr} {ta tb : TE} (ha : PE X a ta) (hb : PE X b tb) {pins : List (Addr × Obj)} {s : Shared} {σ : St} {H : Hp} {R : V → V → Hp → Prop} (I : Inv X pins σ H s) (h : ta σ H fun x H1 => tb σ H1 fun y H2 => R x y H2)
    {α : Type} {Q : α → Shared → Prop} {f : Value → Value → Sem α}
    (hf : ∀ v u s2 x y H2, Inv X pins σ H2 s2 → RelV x v → RelV y u → R x y H2 → wpAny (model X.prog X.w) X.A (f v u) Q X.xe s2) :
    wpAny (model X.prog X.w) X.A (eval a X.env) (fun v s₁ => wpAny (model X.prog X.w) X.A (eval b X.env) (fun u s₂ => wpAny (model X.prog X.w) X.A (f v u) Q X.xe s₂) X.xe s₁) X.xe s := by
  refine thn (ha pins s σ H _ I h) fun v s1 ⟨x, H1, I1, r1, q1⟩ => ?_
  refine thn (hb pins s1 σ H1 _ I1 q1) fun u s2 ⟨y, H2, I2, r2, q2⟩ => ?_
  exact hf v u s2 x y H2 I2 r1 r2 q2

/-! ### names and constants -/
def tVar (i : Nat) : TE := fun σ H Q => ∃ v, σ[i]? = some (some v) ∧ Q v H
def tC (v : V) : TE := fun _ H Q => Q v H
theorem pe_var {i : Nat} {x : Str} {pos : Pos} (hN : X.N[i]? = some x) (hv : Vis X.env.scope x) (hd : (x == ("__debug__" : Str)) = false := by decide) (hcd : (x == ("__classdict__" : Str)) = false := by decide) : PE X (.Name x pos) (tVar i) := by
  intro pins s σ H Q I h
  obtain ⟨v, e, h⟩ := h
  obtain ⟨m, hn, hl⟩ := I.loc
  obtain ⟨u, r, l⟩ := hl i x v hN e hv
  have fin : EP X pins σ Q u s := ⟨v, H, I, r, h⟩
  rcases l with ⟨hk, hm⟩ | ⟨hk, c, hc, hcell⟩
  · exact wpAny_Name (wpAny_loadName_local I.ok.kind hk hn hm fin) hd
  · rcases hk with hk | hk
    · exact wpAny_Name (wpAny_loadName_cell I.ok.kind hk hc hcell fin) hd
    · exact wpAny_Name (wpAny_loadName_free I.ok.kind hk hc hcell fin hcd) hd
theorem pe_int {i j pos} : PE X (.Constant (.int i) j pos) (tC (.int i)) := fun _ _ _ H _ I h => wpAny_Constant_int ⟨.int i, H, I.tok _, ⟨_, rfl⟩, h⟩
theorem pe_bl {b j pos} : PE X (.Constant (.bool b) j pos) (tC (.bl b)) := fun _ _ _ H _ I h => Constant_bool ⟨.bl b, H, I, rfl, h⟩
theorem pe_non {j pos} : PE X (.Constant .none j pos) (tC .non) := fun _ _ _ H _ I h => Constant_none ⟨.non, H, I, rfl, h⟩
theorem pe_str {x j pos} : PE X (.Constant (.str x) j pos) (tC (.str x)) := fun _ _ _ H _ I h => Calls.Constant_str ⟨.str x, H, I.tok _, ⟨_, rfl⟩, h⟩

/-- a global name of the def -/
def Gl (X : Cx) (x : Str) : Prop := X.env.kindOf x = some .globalImplicit
theorem ld_glob {E : Value → Shared → Prop} {pins : List (Addr × Obj)} {s : Shared} {σ : St} {H : Hp} {x : Str} {u : Value} {pos : Pos} {Q : Value → Shared → Prop} (I : Inv X pins σ H s) (hg : Gl X x) (hm : X.mg x = some u) (h : Q u s)
    (hd : (x == ("__debug__" : Str)) = false := by decide) : wpAny (model X.prog X.w) X.A (eval (.Name x pos) X.env) Q E s :=
  Calls.Name_function_global I.ok.kind hg (Calls.loadGlobal_global (by rw [I.ok.glob]; exact I.mod.glob.keeps I.bk) hm h) hd
theorem ld_blt {E : Value → Shared → Prop} {pins : List (Addr × Obj)} {s : Shared} {σ : St} {H : Hp} {x : Str} {u : Value} {pos : Pos} {Q : Value → Shared → Prop} (I : Inv X pins σ H s) (hg : Gl X x) (hm : X.mg x = none) (hv : bootBuiltins x = some u) (h : Q u s)
    (hn : x ≠ "__name__" := by decide) (hd : (x == ("__debug__" : Str)) = false := by decide) : wpAny (model X.prog X.w) X.A (eval (.Name x pos) X.env) Q E s := by
  obtain ⟨mb, h1, h2⟩ := I.mod.blt
  exact Calls.Name_function_global I.ok.kind hg (Calls.loadGlobal_builtin (by rw [I.ok.glob]; exact I.mod.glob.keeps I.bk) hm (by rw [I.ok.blt]; exact h1.keeps I.bk) ((h2 x hn).trans hv) h) hd
/-- a module's constant, a class, a function, as a value -/
theorem pe_glob {x : Str} {v : V} {u : Value} {pos : Pos} (hg : Gl X x) (hm : X.mg x = some u) (r : RelV v u) (hd : (x == ("__debug__" : Str)) = false := by decide) : PE X (.Name x pos) (tC v) :=
  fun _ _ _ H _ I h => ld_glob I hg hm ⟨v, H, I, r, h⟩ hd
theorem pe_bltn {x : Str} {v : V} {u : Value} {pos : Pos} (hg : Gl X x) (hm : X.mg x = none) (hv : bootBuiltins x = some u) (r : RelV v u) (hn : x ≠ "__name__" := by decide) (hd : (x == ("__debug__" : Str)) = false := by decide) : PE X (.Name x pos) (tC v) :=
  fun _ _ _ H _ I h => ld_blt I hg hm hv ⟨v, H, I, r, h⟩ hn hd

/-! ### arithmetic -/
/-- two ints -/
def t2I (ta tb : TE) (k : Int → Int → Hp → Prop) : St → Hp → Prop := fun σ H => ta σ H fun x H1 => tb σ H1 fun y H2 => ∃ i j, x = .int i ∧ y = .int j ∧ k i j H2
def tAdd (ta tb : TE) : TE := fun σ H Q => t2I ta tb (fun i j H2 => Q (.int (i + j)) H2) σ H
def tSub (ta tb : TE) : TE := fun σ H Q => t2I ta tb (fun i j H2 => Q (.int (i - j)) H2) σ H
/-- the left factor below 2^64 -/
def tMul (ta tb : TE) : TE := fun σ H Q => t2I ta tb (fun i j H2 => (-(2 ^ 64) < i ∧ i < 2 ^ 64) ∧ Q (.int (i * j)) H2) σ H
variable {a b : Expr} {ta tb : TE} {pos : Pos}
theorem pe_add (ha : PE X a ta) (hb : PE X b tb) : PE X (.BinOp a .Add b pos) (tAdd ta tb) := by
  intro pins s σ H Q I h
  refine wpAny_BinOp (bin ha hb I h fun v u s2 x y H2 I2 rx ry q => ?_)
  obtain ⟨i, j, rfl, rfl, q⟩ := q
  obtain ⟨t, rfl⟩ := rx
  obtain ⟨t', rfl⟩ := ry
  exact add_int ⟨.int _, H2, I2.tok _, ⟨_, rfl⟩, q⟩
theorem pe_sub (ha : PE X a ta) (hb : PE X b tb) : PE X (.BinOp a .Sub b pos) (tSub ta tb) := by
  intro pins s σ H Q I h
  refine wpAny_BinOp (bin ha hb I h fun v u s2 x y H2 I2 rx ry q => ?_)
  obtain ⟨i, j, rfl, rfl, q⟩ := q
  obtain ⟨t, rfl⟩ := rx
  obtain ⟨t', rfl⟩ := ry
  exact sub_int ⟨.int _, H2, I2.tok _, ⟨_, rfl⟩, q⟩
theorem pe_mul (ha : PE X a ta) (hb : PE X b tb) : PE X (.BinOp a .Mult b pos) (tMul ta tb) := by
  intro pins s σ H Q I h
  refine wpAny_BinOp (bin ha hb I h fun v u s2 x y H2 I2 rx ry q => ?_)
  obtain ⟨i, j, rfl, rfl, ⟨q1, q2⟩, q⟩ := q
  obtain ⟨t, rfl⟩ := rx
  obtain ⟨t', rfl⟩ := ry
  exact mul_int ⟨.int _, H2, I2.tok _, ⟨_, rfl⟩, q⟩ (.of_left (intBits_le_64 q1 q2))

/-! ### comparisons -/
def PC (X : Cx) (op : CmpOp) (a b : Expr) (t : TE) : Prop :=
  ∀ (pins : List (Addr × Obj)) (s : Shared) (σ : St) (H : Hp) (Q : VK), Inv X pins σ H s → t σ H Q →
    wpAny (model X.prog X.w) X.A (eval a X.env) (fun v s₁ => wpAny (model X.prog X.w) X.A (eval b X.env) (fun u s₂ => wpAny (model X.prog X.w) X.A (compareOp op v u) (EP X pins σ Q) X.xe s₂) X.xe s₁) X.xe s
theorem nobehind (b : Expr) {op : CmpOp} (h : op ≠ .In) (h2 : op ≠ .NotIn) : behindInMarks op b = false := by
  have e1 : (op == CmpOp.In) = false := by cases op <;> first | rfl | exact absurd rfl h
  have e2 : (op == CmpOp.NotIn) = false := by cases op <;> first | rfl | exact absurd rfl h2
  cases b <;> simp [behindInMarks, e1, e2]
def tCmp (p : Int → Int → Bool) (ta tb : TE) : TE := fun σ H Q => t2I ta tb (fun i j H2 => Q (.bl (p i j)) H2) σ H
abbrev tLt : TE → TE → TE := tCmp fun i j => decide (i < j)
abbrev tLe : TE → TE → TE := tCmp fun i j => decide (i ≤ j)
abbrev tGt : TE → TE → TE := tCmp fun i j => decide (j < i)
abbrev tGe : TE → TE → TE := tCmp fun i j => decide (j ≤ i)
abbrev tEqI : TE → TE → TE := tCmp fun i j => decide (i = j)
abbrev tNeI : TE → TE → TE := tCmp fun i j => !decide (i = j)
/-- a comparison of two ints, by its rule -/
theorem pc_int {op : CmpOp} {p : Int → Int → Bool} (ha : PE X a ta) (hb : PE X b tb)
    (rule : ∀ (i j : Int) (t u : Tok) (Q : Value → Shared → Prop) (s : Shared), Q (.bool (p i j)) s → wpAny (model X.prog X.w) X.A (compareOp op (.int i t) (.int j u)) Q X.xe s) : PC X op a b (tCmp p ta tb) := by
  intro pins s σ H Q I h
  refine bin ha hb I h fun v u s2 x y H2 I2 rx ry q => ?_
  obtain ⟨i, j, rfl, rfl, q⟩ := q
  obtain ⟨t, rfl⟩ := rx
  obtain ⟨t', rfl⟩ := ry
  exact rule i j t t' _ s2 ⟨.bl _, H2, I2, rfl, q⟩
theorem pc_lt (ha : PE X a ta) (hb : PE X b tb) : PC X .Lt a b (tLt ta tb) := pc_int ha hb fun _ _ _ _ _ _ h => lt_int h
theorem pc_le (ha : PE X a ta) (hb : PE X b tb) : PC X .LtE a b (tLe ta tb) := pc_int ha hb fun _ _ _ _ _ _ h => le_int h
theorem pc_gt (ha : PE X a ta) (hb : PE X b tb) : PC X .Gt a b (tGt ta tb) := pc_int ha hb fun _ _ _ _ _ _ h => gt_int h
theorem pc_ge (ha : PE X a ta) (hb : PE X b tb) : PC X .GtE a b (tGe ta tb) := pc_int ha hb fun _ _ _ _ _ _ h => ge_int h
theorem pc_eqI (ha : PE X a ta) (hb : PE X b tb) : PC X .Eq a b (tEqI ta tb) := pc_int ha hb fun _ _ _ _ _ _ h => eq_int (by rw [Bool.beq_eq_decide_eq]; exact h)
theorem pc_neI (ha : PE X a ta) (hb : PE X b tb) : PC X .NotEq a b (tNeI ta tb) := pc_int ha hb fun _ _ _ _ _ _ h => ne_int (by rw [bne, Bool.beq_eq_decide_eq]; exact h)
/-- is None -/
def tIsN (ta : TE) : TE := fun σ H Q => ta σ H fun x H1 => Q (.bl (decide (x = .non))) H1
def tNotN (ta : TE) : TE := fun σ H Q => ta σ H fun x H1 => Q (.bl (!decide (x = .non))) H1
theorem RelV.none_iff {x : V} {v : Value} (r : RelV x v) : (v == Value.none) = decide (x = .non) := by
  cases x with
  | non => cases r; rfl
  | bl _ => cases r; rfl
  | int _ => obtain ⟨t, rfl⟩ := r; rfl
  | str _ => obtain ⟨t, rfl⟩ := r; rfl
  | byt _ => obtain ⟨t, rfl⟩ := r; rfl
  | flt _ => obtain ⟨t, rfl⟩ := r; rfl
  | ref _ => cases r; rfl
  | ty _ => cases r; rfl
theorem pc_isN {j pos'} (ha : PE X a ta) : PC X .Is a (.Constant .none j pos') (tIsN ta) := by
  intro pins s σ H Q I h
  refine thn (ha pins s σ H _ I h) fun v s1 ⟨x, H1, I1, r1, q1⟩ => ?_
  exact Constant_none (is_none_gen ⟨.bl _, H1, I1, by rw [r1.none_iff]; rfl, q1⟩)
theorem pc_notN {j pos'} (ha : PE X a ta) : PC X .IsNot a (.Constant .none j pos') (tNotN ta) := by
  intro pins s σ H Q I h
  refine thn (ha pins s σ H _ I h) fun v s1 ⟨x, H1, I1, r1, q1⟩ => ?_
  exact Constant_none (isnot_none_gen ⟨.bl _, H1, I1, by rw [r1.none_iff]; rfl, q1⟩)
/-- a comparison as a value, as a test -/
def tB (t : TE) : TT := fun σ H Q => t σ H fun x H1 => ∃ c, x = .bl c ∧ Q c H1
theorem pe_cmp {op : CmpOp} {t : TE} (h : PC X op a b t) (h1 : behindInMarks op b = false := by first | exact nobehind _ (by decide) (by decide) | rfl) : PE X (.Compare a [op] [b] pos) t := fun pins s σ H Q I hw => wpAny_Compare1 (h pins s σ H Q I hw) h1
theorem pt_cmp {op : CmpOp} {t : TE} (h : PC X op a b t) (h1 : behindInMarks op b = false := by first | exact nobehind _ (by decide) (by decide) | rfl) : PT X (.Compare a [op] [b] pos) (tB t) := by
  intro pins s σ H Q I hw
  refine wpAny_isTrue_Compare1 (thn (h pins s σ H _ I hw) fun v s1 h1 => thn h1 fun u s2 h2 => thn h2 fun c s3 ⟨x, H1, I1, r1, q1⟩ => ?_) h1
  obtain ⟨d, rfl, q⟩ := q1
  cases r1
  exact wpAny_truthy_bool ⟨H1, I1, q⟩
/-- an expression whose value is a bool, as a test -/
theorem pt_val {e : Expr} {t : TE} (h : PE X e t) (he : ∀ whole, isTrue e X.env whole = (do let v ← whole; standAt e.pos; holding [v] (truthy v)) := by intro _; rfl) : PT X e (tB t) := by
  intro pins s σ H Q I hw
  refine isTrue_plain (thn (h pins s σ H _ I hw) fun v s1 ⟨x, H1, I1, r1, q1⟩ => ?_) (he _)
  obtain ⟨d, rfl, q⟩ := q1
  cases r1
  exact wpAny_truthy_bool ⟨H1, I1, q⟩

/-! ### and, or, not -/
variable {tA tB' : TT} {rest : List Expr}
def tAnd (t u : TT) : TT := fun σ H Q => t σ H fun c H1 => if c = true then u σ H1 Q else Q false H1
def tOr (t u : TT) : TT := fun σ H Q => t σ H fun c H1 => if c = true then Q true H1 else u σ H1 Q
def tNot (t : TT) : TT := fun σ H Q => t σ H fun c H1 => Q (!c) H1
theorem pw_and1 (ha : PT X a tA) : PW X (.BoolOp .And [a] pos) tA := by
  intro wh pins s σ H Q I h
  refine isTrue_and (thn (ha pins s σ H Q I h) fun c s1 e => ?_)
  cases c with
  | true => exact isTrue_and_nil e
  | false => exact e
theorem pw_or1 (ha : PT X a tA) : PW X (.BoolOp .Or [a] pos) tA := by
  intro wh pins s σ H Q I h
  refine isTrue_or (thn (ha pins s σ H Q I h) fun c s1 e => ?_)
  cases c with
  | false => exact isTrue_or_nil e
  | true => exact e
theorem pw_and (ha : PT X a tA) (hb : PW X (.BoolOp .And (b :: rest) pos) tB') : PW X (.BoolOp .And (a :: b :: rest) pos) (tAnd tA tB') := by
  intro wh pins s σ H Q I h
  refine isTrue_and (thn (ha pins s σ H _ I h) fun c s1 ⟨H1, I1, q1⟩ => ?_)
  cases c with
  | true => exact hb wh pins s1 σ H1 Q I1 q1
  | false => exact ⟨H1, I1, q1⟩
theorem pw_or (ha : PT X a tA) (hb : PW X (.BoolOp .Or (b :: rest) pos) tB') : PW X (.BoolOp .Or (a :: b :: rest) pos) (tOr tA tB') := by
  intro wh pins s σ H Q I h
  refine isTrue_or (thn (ha pins s σ H _ I h) fun c s1 ⟨H1, I1, q1⟩ => ?_)
  cases c with
  | true => exact ⟨H1, I1, q1⟩
  | false => exact hb wh pins s1 σ H1 Q I1 q1
theorem pt_not (ha : PT X a tA) : PT X (.UnaryOp .Not a pos) (tNot tA) := by
  intro pins s σ H Q I h
  exact isTrue_not (ha pins s σ H (fun c H1 => Q (!c) H1) I h)
/-- .. as values (bools) -/
def tAndV (ta tb : TE) : TE := fun σ H Q => ta σ H fun x H1 => ∃ c, x = .bl c ∧ if c = true then tb σ H1 Q else Q (.bl false) H1
def tOrV (ta tb : TE) : TE := fun σ H Q => ta σ H fun x H1 => ∃ c, x = .bl c ∧ if c = true then Q (.bl true) H1 else tb σ H1 Q
def tNotV (ta : TE) : TE := fun σ H Q => ta σ H fun x H1 => ∃ c, x = .bl c ∧ Q (.bl (!c)) H1
theorem pe_one {op} {t : TE} (h : PE X a t) : PE X (.BoolOp op [a] pos) t := fun pins s σ H Q I hw => BoolOp_one (h pins s σ H Q I hw)
theorem pe_and (ha : PE X a ta) (hb : PE X (.BoolOp .And (b :: rest) pos) tb) : PE X (.BoolOp .And (a :: b :: rest) pos) (tAndV ta tb) := by
  intro pins s σ H Q I h
  refine BoolOp_and (thn (ha pins s σ H _ I h) fun v s1 ⟨x, H1, I1, r1, q1⟩ => ?_)
  obtain ⟨c, rfl, q1⟩ := q1
  cases r1
  refine wpAny_truthy_bool ?_
  cases c with
  | true => exact hb pins s1 σ H1 Q I1 q1
  | false => exact ⟨.bl false, H1, I1, rfl, q1⟩
theorem pe_or (ha : PE X a ta) (hb : PE X (.BoolOp .Or (b :: rest) pos) tb) : PE X (.BoolOp .Or (a :: b :: rest) pos) (tOrV ta tb) := by
  intro pins s σ H Q I h
  refine BoolOp_or (thn (ha pins s σ H _ I h) fun v s1 ⟨x, H1, I1, r1, q1⟩ => ?_)
  obtain ⟨c, rfl, q1⟩ := q1
  cases r1
  refine wpAny_truthy_bool ?_
  cases c with
  | false => exact hb pins s1 σ H1 Q I1 q1
  | true => exact ⟨.bl true, H1, I1, rfl, q1⟩
theorem pe_not (ha : PE X a ta) : PE X (.UnaryOp .Not a pos) (tNotV ta) := by
  intro pins s σ H Q I h
  refine UnaryOp_ (thn (ha pins s σ H _ I h) fun v s1 ⟨x, H1, I1, r1, q1⟩ => ?_)
  obtain ⟨c, rfl, q1⟩ := q1
  cases r1
  exact not_of (wpAny_truthy_bool ⟨.bl (!c), H1, I1, rfl, q1⟩)
/-- a if t else b -/
def tIf (t : TT) (ta tb : TE) : TE := fun σ H Q => t σ H fun c H1 => if c = true then ta σ H1 Q else tb σ H1 Q
theorem pe_ifExp {c : Expr} (hc : PT X c tA) (ha : PE X a ta) (hb : PE X b tb) : PE X (.IfExp c a b pos) (tIf tA ta tb) := by
  intro pins s σ H Q I h
  refine wpAny_IfExp (thn (hc pins s σ H _ I h) fun d s1 ⟨H1, I1, q1⟩ => ?_)
  cases d with
  | true => exact ha pins s1 σ H1 Q I1 q1
  | false => exact hb pins s1 σ H1 Q I1 q1
end
end L2

namespace L2
open PySem PySem.Spec PyProof.Rows

/-! ### a list, a tuple that is read: tracked, frozen, or an object of the module -/
def SqL (K : PySem.W.Frag) (H : Hp) (a : Addr) (xs : List V) : Prop :=
  Rd H a (.lst xs) ∨
    ∃ (o : Obj) (its : Array Value) (n : Nat), K.lookup a = some o ∧ o.cls = .type "list" ∧ o.dict = none ∧ o.data = .seq its n ∧ its.size ≤ sizeLine ∧ Vals xs its.toList
def SqT (K : PySem.W.Frag) (H : Hp) (a : Addr) (xs : List V) : Prop :=
  Rd H a (.tup xs) ∨
    ∃ (o : Obj) (its : Array Value) (n : Nat), K.lookup a = some o ∧ o.cls = .type "tuple" ∧ o.data = .seq its n ∧ its.size ≤ sizeLine ∧ Vals xs its.toList
def absV : Value → Option V
  | .none => some .non
  | .bool b => some (.bl b)
  | .int i _ => some (.int i)
  | .str x _ => some (.str x)
  | .bytes b _ => some (.byt b)
  | .float b _ => some (.flt b)
  | .ref a => some (.ref a)
  | .type n => some (.ty n)
  | _ => none
theorem RelV.abs {x : V} {u : Value} (r : RelV x u) : absV u = some x := by
  cases x with
  | non => cases r; rfl
  | bl _ => cases r; rfl
  | int _ => obtain ⟨t, rfl⟩ := r; rfl
  | str _ => obtain ⟨t, rfl⟩ := r; rfl
  | byt _ => obtain ⟨t, rfl⟩ := r; rfl
  | flt _ => obtain ⟨t, rfl⟩ := r; rfl
  | ref _ => cases r; rfl
  | ty _ => cases r; rfl
theorem RelV.inj {x y : V} {u : Value} (r : RelV x u) (q : RelV y u) : x = y := Option.some.inj (r.abs.symm.trans q.abs)
theorem Vals.inj : ∀ {xs ys : List V} {us : List Value}, Vals xs us → Vals ys us → xs = ys
  | _, _, _, .nil, .nil => rfl
  | _, _, _, .cons r t, .cons r' t' => by rw [r.inj r', Vals.inj t t']
section
variable {X : Cx} {pins : List (Addr × Obj)} {σ : St} {H : Hp} {s : Shared} {a : Addr} {xs ys : List V}
theorem SqL.of {K : PySem.W.Frag} (h : H a = some (.lst xs)) : SqL K H a xs := .inl (.inl h)
theorem SqT.of {K : PySem.W.Frag} (h : H a = some (.tup xs)) : SqT K H a xs := .inl (.inl h)
theorem Inv.list (I : Inv X pins σ H s) (h : SqL X.K H a xs) : ∃ its : List Value, Vals xs its ∧ PlainL s.heap a its.toArray ∧ xs.length ≤ sizeLine := by
  rcases h with h | ⟨o, its, n, hk, hc, hd, hs, hz, r⟩
  · obtain ⟨z, its, n, r, e⟩ := h.ok I.hok
    exact ⟨its, r, ⟨_, n, e, rfl, rfl, rfl⟩, z⟩
  · refine ⟨its.toList, r, ⟨o, n, I.kIn a o hk, hc, hd, by simpa using hs⟩, ?_⟩
    have e := r.length
    simp only [Array.length_toList] at e
    omega
theorem Inv.tuple (I : Inv X pins σ H s) (h : SqT X.K H a xs) : ∃ its : List Value, Vals xs its ∧ IsTup s.heap a its.toArray ∧ xs.length ≤ sizeLine := by
  rcases h with h | ⟨o, its, n, hk, hc, hs, hz, r⟩
  · obtain ⟨z, its, r, p⟩ := h.ok I.hok
    exact ⟨its, r, p, z⟩
  · refine ⟨its.toList, r, ⟨o, I.kIn a o hk, hc, n, by simpa using hs⟩, ?_⟩
    have e := r.length
    simp only [Array.length_toList] at e
    omega
theorem Inv.list_inj (I : Inv X pins σ H s) (h : SqL X.K H a xs) (h' : SqL X.K H a ys) : xs = ys := by
  obtain ⟨its, r, ⟨o, n, e, _, _, d⟩, _⟩ := I.list h
  obtain ⟨its', r', ⟨o', n', e', _, _, d'⟩, _⟩ := I.list h'
  rw [e] at e'; cases e'
  rw [d] at d'
  injection d' with d1 _
  have : its = its' := by simpa using congrArg Array.toList d1
  subst this
  exact r.inj r'
theorem Inv.tuple_inj (I : Inv X pins σ H s) (h : SqT X.K H a xs) (h' : SqT X.K H a ys) : xs = ys := by
  obtain ⟨its, r, ⟨o, e, _, n, d⟩, _⟩ := I.tuple h
  obtain ⟨its', r', ⟨o', e', _, n', d'⟩, _⟩ := I.tuple h'
  rw [e] at e'; cases e'
  rw [d] at d'
  injection d' with d1 _
  have : its = its' := by simpa using congrArg Array.toList d1
  subst this
  exact r.inj r'
end

/-! ### another wish about exceptions -/
abbrev Cx.wish (X : Cx) (E : Value → Shared → Prop) : Cx := { X with xe := E }
/-- no exception leaves -/
abbrev Cx.nox (X : Cx) : Cx := X.wish fun _ _ => False
theorem Cx.Ok.wish {X : Cx} (ok : X.Ok) (E : Value → Shared → Prop) : (X.wish E).Ok :=
  ⟨ok.mod, ok.kind, ok.glob, ok.blt, ok.above, ok.inj, ok.has, ok.cab, ok.hd, ok.frames, ok.stk, ok.exf, ok.bs, ok.bsz, ok.noex, ok.exfs, ok.funs, ok.frf⟩
theorem Cx.Ok.unwish {X : Cx} {E : Value → Shared → Prop} (ok : (X.wish E).Ok) : X.Ok :=
  ⟨ok.mod, ok.kind, ok.glob, ok.blt, ok.above, ok.inj, ok.has, ok.cab, ok.hd, ok.frames, ok.stk, ok.exf, ok.bs, ok.bsz, ok.noex, ok.exfs, ok.funs, ok.frf⟩
section
variable {X : Cx} {pins : List (Addr × Obj)} {σ : St} {H : Hp} {s : Shared} {E : Value → Shared → Prop}
theorem Inv.wish (I : Inv X pins σ H s) (E : Value → Shared → Prop) : Inv (X.wish E) pins σ H s := ⟨I.ok.wish E, I.os, I.bare, I.base, I.loc, I.cell, I.free, I.freeC, I.pin, I.hok, I.len⟩
theorem Inv.unwish (I : Inv (X.wish E) pins σ H s) : Inv X pins σ H s := ⟨I.ok.unwish, I.os, I.bare, I.base, I.loc, I.cell, I.free, I.freeC, I.pin, I.hok, I.len⟩
theorem SP.unwish {D : Ends} {f : Flow} {s' : Shared} (h : SP (X.wish E) pins D f s') : SP X pins D f s' := by
  cases f with
  | next => obtain ⟨σ', H', I, q⟩ := h; exact ⟨σ', H', I.unwish, q⟩
  | brk => obtain ⟨σ', H', I, q⟩ := h; exact ⟨σ', H', I.unwish, q⟩
  | cont => obtain ⟨σ', H', I, q⟩ := h; exact ⟨σ', H', I.unwish, q⟩
  | ret u => obtain ⟨v, σ', H', I, r, q⟩ := h; exact ⟨v, σ', H', I.unwish, r, q⟩
theorem PE.nox {e : Expr} {t : TE} (h : PE X.nox e t) : PE X e t := fun pins s σ H Q I hw =>
  wpAny_mono (h pins s σ H Q (I.wish _) hw) (fun _ _ ⟨v, H', I', r, q⟩ => ⟨v, H', I'.unwish, r, q⟩) fun _ _ z => False.elim z
theorem PT.nox {e : Expr} {t : TT} (h : PT X.nox e t) : PT X e t := fun pins s σ H Q I hw =>
  wpAny_mono (h pins s σ H Q (I.wish _) hw) (fun _ _ ⟨H', I', q⟩ => ⟨H', I'.unwish, q⟩) fun _ _ z => False.elim z
theorem PSs.nox {st : List Stmt} {t : TS} (h : PSs X.nox st t) : PSs X st t := fun pins s σ H D I hw =>
  wpAny_mono (h pins s σ H D (I.wish _) hw) (fun _ _ q => q.unwish) fun _ _ z => False.elim z
end

/-! ### blocks and small statements -/
section
variable {X : Cx} {st : Stmt} {rest : List Stmt} {t u : TS} {e : Expr} {te : TE} {pos : Pos}
def tNext : TS := fun D σ H => D.nx σ H
def tSeq (t u : TS) : TS := fun D σ H => t { D with nx := u D } σ H
theorem pss_nil : PSs X [] tNext := fun _ _ σ H _ I h => wpAny_execs_nil ⟨σ, H, I, h⟩
theorem pss_cons (h1 : PS X st t) (h2 : PSs X rest u) : PSs X (st :: rest) (tSeq t u) := by
  intro pins s σ H D I h
  refine wpAny_execs_cons (thn (h1 pins s σ H { D with nx := u D } I h) fun f s1 q => ?_)
  cases f with
  | next =>
    obtain ⟨σ', H', I', q⟩ := q
    exact h2 pins s1 σ' H' D I' q
  | ret v => exact q
  | brk => exact q
  | cont => exact q
theorem pss_one (h1 : PS X st t) : PSs X [st] t := by
  intro pins s σ H D I h
  refine wpAny_execs_cons (thn (h1 pins s σ H D I h) fun f s1 q => ?_)
  cases f with
  | next => exact wpAny_execs_nil q
  | ret v => exact q
  | brk => exact q
  | cont => exact q
def tBreak : TS := fun D σ H => D.bk σ H
def tCont : TS := fun D σ H => D.ct σ H
theorem ps_pass : PS X (.Pass pos) tNext := fun _ _ σ H _ I h => wpAny_Pass ⟨σ, H, I, h⟩
theorem ps_break : PS X (.Break pos) tBreak := fun _ _ σ H _ I h => wpAny_Break ⟨σ, H, I, h⟩
theorem ps_continue : PS X (.Continue pos) tCont := fun _ _ σ H _ I h => wpAny_Continue ⟨σ, H, I, h⟩
/-- in a def's body nothing is shown -/
theorem Inv.quiet {pins : List (Addr × Obj)} {σ : St} {H : Hp} {s : Shared} (I : Inv X pins σ H s) : interactive X.env = false := by simp [interactive, I.ok.kind]
/-- a docstring -/
theorem ps_doc {x j pos pos'} : PS X (.Expr (.Constant (.str x) j pos) pos') tNext := fun _ s σ H _ I h => wpAny_Expr (Calls.Constant_str (show SP X _ _ .next { s with toks := s.toks + 1 } from ⟨σ, H, I.tok _, h⟩)) I.quiet
/-- an expression whose value is dropped -/
def tDrop (te : TE) : TS := fun D σ H => te σ H fun _ H1 => D.nx σ H1
theorem ps_expr (he : PE X e te) (hs : swapsWith e none pos.line X.env = pure false := by rfl) : PS X (.Expr e pos) (tDrop te) := by
  intro pins s σ H D I h
  exact wpAny_Expr_any (thn (he pins s σ H _ I h) fun v s1 ⟨x, H1, I1, r1, q1⟩ => ⟨σ, H1, I1, q1⟩) I.quiet hs
def tRet (te : TE) : TS := fun D σ H => te σ H D.rt
theorem ps_ret (he : PE X e te) : PS X (.Return (some e) pos) (tRet te) := by
  intro pins s σ H D I h
  exact wpAny_Return_some (thn (he pins s σ H _ I h) fun v s1 ⟨x, H1, I1, r1, q1⟩ => ⟨x, σ, H1, I1, r1, q1⟩)
def tRetN : TS := fun D _ H => D.rt .non H
theorem ps_retN : PS X (.Return none pos) tRetN := fun _ _ σ H _ I h => wpAny_Return_none ⟨.non, σ, H, I, rfl, h⟩
def tIfS (c : TT) (t u : TS) : TS := fun D σ H => c σ H fun b H1 => if b = true then t D σ H1 else u D σ H1
theorem ps_if {c : Expr} {a b : List Stmt} {tc : TT} (hc : PT X c tc) (ha : PSs X a t) (hb : PSs X b u) : PS X (.If c a b pos) (tIfS tc t u) := by
  intro pins s σ H D I h
  refine wpAny_If (thn (hc pins s σ H _ I h) fun d s1 ⟨H1, I1, q1⟩ => ?_)
  cases d with
  | true => exact ha pins s1 σ H1 D I1 q1
  | false => exact hb pins s1 σ H1 D I1 q1
/-- code that the proof never comes to -/
def tNever : TS := fun _ _ _ => False
theorem ps_never : PS X st tNever := fun _ _ _ _ _ _ h => h.elim
theorem pss_never {sts : List Stmt} : PSs X sts tNever := fun _ _ _ _ _ _ h => h.elim
end

/-! ### targets -/
abbrev TG := V → St → Hp → (St → Hp → Prop) → Prop
abbrev TGs := List V → St → Hp → (St → Hp → Prop) → Prop
def PG (X : Cx) (target : Expr) (t : TG) : Prop :=
  ∀ (pins : List (Addr × Obj)) (s : Shared) (σ : St) (H : Hp) (v : V) (u : Value) (Q : St → Hp → Prop), Inv X pins σ H s → RelV v u → t v σ H Q →
    wpAny (model X.prog X.w) X.A (assign target X.env u) (fun _ s' => ∃ σ' H', Inv X pins σ' H' s' ∧ Q σ' H') X.xe s
/-- several targets, one after another -/
def PGs (X : Cx) (ts : List Expr) (t : TGs) : Prop :=
  ∀ (pins : List (Addr × Obj)) (s : Shared) (σ : St) (H : Hp) (vs : List V) (us : List Value) (Q : St → Hp → Prop), Inv X pins σ H s → Vals vs us → t vs σ H Q →
    wpAny (model X.prog X.w) X.A (assignInOrder ((assignEach ts X.env).map (·.2)) us) (fun _ s' => ∃ σ' H', Inv X pins σ' H' s' ∧ Q σ' H') X.xe s
/-- o[i] = v, by values -/
abbrev TSet := V → V → V → Hp → (Hp → Prop) → Prop
def PSet (X : Cx) (t : TSet) : Prop :=
  ∀ (pins : List (Addr × Obj)) (s : Shared) (σ : St) (H : Hp) (o i v : V) (ov iv u : Value) (Q : Hp → Prop), Inv X pins σ H s → RelV o ov → RelV i iv → RelV v u → t o i v H Q →
    wpAny (model X.prog X.w) X.A (setItem ov iv u) (fun _ s' => ∃ H', Inv X pins σ H' s' ∧ Q H') X.xe s
/-- a op= b, by values -/
abbrev TIp := V → V → Hp → VK → Prop
def PIp (X : Cx) (op : Operator) (t : TIp) : Prop :=
  ∀ (pins : List (Addr × Obj)) (s : Shared) (σ : St) (H : Hp) (x y : V) (v u : Value) (Q : VK), Inv X pins σ H s → RelV x v → RelV y u → t x y H Q →
    wpAny (model X.prog X.w) X.A (inplaceOp op v u) (EP X pins σ Q) X.xe s
section
variable {X : Cx} {pos : Pos}
def gName (i : Nat) : TG := fun v σ H Q => Q (σ.set i (some v)) H
theorem pg_name {i : Nat} {x : Str} (hN : X.N.Nodup) (hi : X.N[i]? = some x) (hx : Loc X.env.scope x) (hf : X.fn x = true ∨ X.env.scope.names.lookup x = some .local := by first | exact .inl rfl | exact .inr rfl | assumption) : PG X (.Name x pos) (gName i) := by
  intro pins s σ H v u Q I r h
  exact wpAny_assign_Name (store_ok I hN hi hx r (fun s' I' => ⟨_, H, I', h⟩) hf)
def gNil : TGs := fun vs σ H Q => vs = [] ∧ Q σ H
def gCons (t : TG) (u : TGs) : TGs := fun vs σ H Q => ∃ v r, vs = v :: r ∧ t v σ H fun σ' H' => u r σ' H' Q
theorem pgs_nil : PGs X [] gNil := by
  intro pins s σ H vs us Q I r h
  obtain ⟨e, h⟩ := h
  subst e
  cases r
  exact assignInOrder_nil ⟨σ, H, I, h⟩
theorem pgs_cons {e : Expr} {es : List Expr} {t : TG} {u : TGs} (h1 : PG X e t) (h2 : PGs X es u)
    (hs : (assignEach (e :: es) X.env).map (·.2) = assign e X.env :: (assignEach es X.env).map (·.2) := by rfl) : PGs X (e :: es) (gCons t u) := by
  intro pins s σ H vs us Q I r h
  obtain ⟨v, vr, e1, h⟩ := h
  subst e1
  cases r with
  | cons r rr =>
    rw [hs]
    refine assignInOrder_cons (thn (h1 pins s σ H _ _ _ I r h) fun _ s1 ⟨σ1, H1, I1, q1⟩ => ?_)
    exact h2 pins s1 σ1 H1 _ _ Q I1 rr q1
/-- (a, b, ..) = a tuple of that length -/
def gTup (K : PySem.W.Frag) (n : Nat) (t : TGs) : TG := fun v σ H Q => ∃ a xs, v = .ref a ∧ SqT K H a xs ∧ xs.length = n ∧ t xs σ H Q
theorem pg_tup {es : List Expr} {k : Nat} {t : TGs} {n : Nat} (hc : X.calm = true) (h : PGs X es t)
    (hn : (assignEach es X.env).length = n := by rfl) (hst : (assignEach es X.env).findIdx? (·.1) = none := by rfl) : PG X (.Tuple es k pos) (gTup X.K n t) := by
  intro pins s σ H v u Q I r hw
  obtain ⟨a, xs, e1, hq, hl, hw⟩ := hw
  subst e1
  cases r
  obtain ⟨its, rv, ht, hz⟩ := I.tuple hq
  refine assign_Tuple_tuple (I.ok.hd hc) ht (by simp [hn, ← hl, rv.length]) hst fun h' hx => ?_
  have I1 : Inv X pins σ H { s with heap := h' } := I.kept (t' := s.toks) fun b o e => hx b o (Nat.ne_of_lt (Heap.lt_size e)) e
  exact h pins _ σ H xs _ Q I1 (by simpa using rv) hw
/-- o[i] = .. -/
def gSub (to ti : TE) (t : TSet) : TG := fun v σ H Q => to σ H fun o H1 => ti σ H1 fun i H2 => t o i v H2 fun H3 => Q σ H3
theorem pg_sub {o i : Expr} {to ti : TE} {t : TSet} (ho : PE X o to) (hi : PE X i ti) (hs : PSet X t)
    (ha : ∀ v, assign (.Subscript o i pos) X.env v = (do
      let ov ← holding [v] (eval o X.env)
      let iv ← holding [v, ov] (eval i X.env)
      standAt pos
      holding [v, ov, iv] (setItem ov iv v)
      release [v, ov, iv] []) := by intro _; rfl) : PG X (.Subscript o i pos) (gSub to ti t) := by
  intro pins s σ H v u Q I r h
  rw [ha]
  refine wpAny_bind (wpAny_holding (thn (ho pins s σ H _ I h) fun ov s1 ⟨x, H1, I1, r1, q1⟩ => ?_))
  refine wpAny_bind (wpAny_holding (thn (hi pins s1 σ H1 _ I1 q1) fun iv s2 ⟨y, H2, I2, r2, q2⟩ => ?_))
  refine wpAny_bind (wpAny_standAt (wpAny_bind (wpAny_holding (thn (hs pins s2 σ H2 x y v ov iv u _ I2 r1 r2 r q2) fun _ s3 ⟨H3, I3, q3⟩ => ?_))))
  exact wpAny_release ⟨σ, H3, I3, q3⟩
/-- target = value -/
def tAsg (te : TE) (g : TG) : TS := fun D σ H => te σ H fun x H1 => g x σ H1 D.nx
theorem ps_asg {tg e : Expr} {te : TE} {g : TG} (he : PE X e te) (hg : PG X tg g) (hs : swapsWithSole [tg] e pos.line X.env = pure false := by rfl) (hw : swappedStores [tg] e X.env = pure none := by rfl)
    (h1 : (assignEach [tg] X.env).map (·.2) = [assign tg X.env] := by rfl) : PS X (.Assign [tg] e pos) (tAsg te g) := by
  intro pins s σ H D I h
  refine wpAny_Assign_stores (thn (he pins s σ H _ I h) fun v s1 ⟨x, H1, I1, r1, q1⟩ => ?_) hs hw
  rw [h1]
  exact thn (hg pins s1 σ H1 x v _ I1 r1 q1) fun _ s2 q => q
/-- name = value -/
theorem ps_set {i : Nat} {x : Str} {e : Expr} {te : TE} {pos' : Pos} (hN : X.N.Nodup) (hi : X.N[i]? = some x) (hx : Loc X.env.scope x) (he : PE X e te) (hs : swapsWith e (some (.Name x pos')) pos.line X.env = pure false := by rfl) (hf : X.fn x = true ∨ X.env.scope.names.lookup x = some .local := by first | exact .inl rfl | exact .inr rfl | assumption) :
    PS X (.Assign [.Name x pos'] e pos) (tAsg te (gName i)) := by
  intro pins s σ H D I h
  refine wpAny_Assign_Name (thn (he pins s σ H _ I h) fun v s1 ⟨y, H1, I1, r1, q1⟩ => ?_) hs
  exact store_ok I1 hN hi hx r1 (fun s2 I2 => ⟨_, H1, I2, q1⟩) hf
/-- a, b = x, y with plain local names: stored from the right; the pair itself is not tracked (the opening rows as in PyProof/Rows/TupAssign.lean:23) -/
def tPar (i j : Nat) (ta : TA) : TS := fun D σ H => ta σ H fun vs H1 => ∃ v w, vs = [v, w] ∧ D.nx ((σ.set i (some v)).set j (some w)) H1
theorem ps_par {i j : Nat} {x y : Str} {a b : Expr} {ta : TA} {px py pt : Pos} {kt k2 pt2} (hc : X.calm = true) (hN : X.N.Nodup) (hi : X.N[i]? = some x) (hj : X.N[j]? = some y) (hij : i ≠ j)
    (hx : X.env.scope.names.lookup x = some .local) (hy : X.env.scope.names.lookup y = some .local) (ha : PA X [a, b] ta)
    (hw : swappedStores [.Tuple [.Name x px, .Name y py] kt pt] (.Tuple [a, b] k2 pt2) X.env = pure (some [x, y]))
    (hs : swapsWithSole [.Tuple [.Name x px, .Name y py] kt pt] (.Tuple [a, b] k2 pt2) pos.line X.env = pure false := by rfl) :
    PS X (.Assign [.Tuple [.Name x px, .Name y py] kt pt] (.Tuple [a, b] k2 pt2) pos) (tPar i j ta) := by
  intro pins s σ H D I h
  rw [exec_Assign_arm]
  refine wpAny_bind (wpAny_standAt ?_)
  rw [hs]
  refine wpAny_bind (wpAny_pure ?_)
  rw [if_neg (by decide)]
  refine wpAny_bind (Tuple_ (thn (ha _ pins s σ H _ I h) fun us s1 ⟨vs, H1, I1, r1, q1⟩ => ?_))
  obtain ⟨v, w, e1, q1⟩ := q1
  subst e1
  obtain ⟨u1, u2, rfl, rv, rw'⟩ : ∃ u1 u2, us = [u1, u2] ∧ RelV v u1 ∧ RelV w u2 := by
    cases r1 with
    | cons p q =>
      cases q with
      | cons p' q' =>
        cases q'
        exact ⟨_, _, rfl, p, p'⟩
  refine wpAny_newObj_type ?_ (by show 2 ≤ sizeLine; decide)
  have I2 : Inv X pins σ H1 { s1 with heap := s1.heap.push { cls := .type "tuple", data := .seq [u1, u2].toArray } } := I1.kept (t' := s1.toks) fun b o e => Heap.get?_push_of_some _ e
  rw [hw]
  refine wpAny_bind (wpAny_pure ?_)
  show wpAny (model X.prog X.w) X.A (do rule "assign.swapped-stores"; let items ← unpackItems (.ref s1.heap.objs.size) 2 none; assignInOrder [fun v => bindName X.env y v, fun v => bindName X.env x v] items.reverse; pure Flow.next) _ _ _
  refine wpAny_bind (wpAny_rule (wpAny_bind (unpackItems_tuple (items := #[u1, u2]) (I.ok.hd hc) (IsTup.new s1.heap _) fun h' hx' => ?_)))
  have I3 := I2.kept (h' := h') (t' := s1.toks) fun b o e => hx' b o (Nat.ne_of_lt (Heap.lt_size e)) e
  show wpAny _ _ (assignInOrder [fun v => bindName X.env y v, fun v => bindName X.env x v] [u2, u1] >>= fun _ => pure Flow.next) _ _ _
  refine wpAny_bind (assignInOrder_cons (wpAny_bindName (store_ok I3 hN hj (.inl hy) rw' (fun s2 I4 => ?_) (.inr hy))))
  refine assignInOrder_cons (wpAny_bindName (store_ok I4 hN hi (.inl hx) rv (fun s3 I5 => assignInOrder_nil (wpAny_pure ?_)) (.inr hx)))
  rw [List.set_comm _ _ (Ne.symm hij)] at I5
  exact ⟨_, H1, I5, q1⟩
/-- name op= e -/
def tAug (i : Nat) (te : TE) (ti : TIp) : TS := fun D σ H => ∃ x, σ[i]? = some (some x) ∧ te σ H fun y H1 => ti x y H1 fun z H2 => D.nx (σ.set i (some z)) H2
theorem ps_aug {i : Nat} {x : Str} {e : Expr} {te : TE} {op : Operator} {ti : TIp} {pos' : Pos} (hN : X.N.Nodup) (hi : X.N[i]? = some x) (hx : Loc X.env.scope x) (he : PE X e te) (ho : PIp X op ti) (hf : X.fn x = true ∨ X.env.scope.names.lookup x = some .local := by first | exact .inl rfl | exact .inr rfl | assumption) :
    PS X (.AugAssign (.Name x pos') op e pos) (tAug i te ti) := by
  intro pins s σ H D I h
  obtain ⟨v, e1, h⟩ := h
  obtain ⟨m, hn, hl⟩ := I.loc
  have vis : Vis X.env.scope x := by rcases hx with k | k; exact .inl k; exact .inr (.inl k)
  obtain ⟨u, r, l⟩ := hl i x v hi e1 vis
  refine wpAny_AugAssign_Name ?_
  have go : wpAny (model X.prog X.w) X.A (eval e X.env) (fun w s₂ => wpAny (model X.prog X.w) X.A (inplaceOp op u w) (fun r s₃ => wpAny (model X.prog X.w) X.A (storeName X.env x r) (fun _ => SP X pins D .next) X.xe s₃) X.xe s₂) X.xe s := by
    refine thn (he pins s σ H _ I h) fun w s1 ⟨y, H1, I1, r1, q1⟩ => ?_
    refine thn (ho pins s1 σ H1 v y u w _ I1 r r1 q1) fun z s2 ⟨zv, H2, I2, r2, q2⟩ => ?_
    exact store_ok I2 hN hi hx r2 (fun s3 I3 => ⟨_, H2, I3, q2⟩) hf
  rcases l with ⟨hk, hm⟩ | ⟨hk, c, hc, hcell⟩
  · exact wpAny_loadName_local I.ok.kind hk hn hm go
  · rcases hk with hk | hk
    · exact wpAny_loadName_cell I.ok.kind hk hc hcell go
    · rcases hx with k | k
      · have : X.env.scope.names.lookup x = some .free := hk
        rw [k] at this; cases this
      · have : X.env.scope.names.lookup x = some .free := hk
        rw [k] at this; cases this
/-- o[i] op= e -/
def tAugS (to ti te : TE) (tget : V → V → Hp → VK → Prop) (tip : TIp) (tset : TSet) : TS := fun D σ H => to σ H fun o H1 => ti σ H1 fun i H2 => tget o i H2 fun x H3 => te σ H3 fun y H4 => tip x y H4 fun z H5 => tset o i z H5 fun H6 => D.nx σ H6
/-- o[i], by values -/
def PGet (X : Cx) (t : V → V → Hp → VK → Prop) : Prop :=
  ∀ (pins : List (Addr × Obj)) (s : Shared) (σ : St) (H : Hp) (o i : V) (ov iv : Value) (Q : VK), Inv X pins σ H s → RelV o ov → RelV i iv → t o i H Q →
    wpAny (model X.prog X.w) X.A (getItem ov iv) (EP X pins σ Q) X.xe s
theorem ps_augS {o i e : Expr} {to ti te : TE} {tget : V → V → Hp → VK → Prop} {tip : TIp} {tset : TSet} {op : Operator} {tpos : Pos} (ho : PE X o to) (hi : PE X i ti) (hg : PGet X tget) (he : PE X e te) (hp : PIp X op tip) (hs : PSet X tset)
    (ha : ∀ ov iv new, augStore i ov iv new = (do holding [new, ov, iv] (setItem ov iv new); release [new, ov, iv] []; pure .next) := by intros; rfl) : PS X (.AugAssign (.Subscript o i tpos) op e pos) (tAugS to ti te tget tip tset) := by
  intro pins s σ H D I h
  refine wpAny_AugAssign_SubscriptAny (thn (ho pins s σ H _ I h) fun ov s1 ⟨x1, H1, I1, r1, q1⟩ => ?_) ha
  refine thn (hi pins s1 σ H1 _ I1 q1) fun iv s2 ⟨x2, H2, I2, r2, q2⟩ => ?_
  refine thn (hg pins s2 σ H2 x1 x2 ov iv _ I2 r1 r2 q2) fun old s3 ⟨x3, H3, I3, r3, q3⟩ => ?_
  refine thn (he pins s3 σ H3 _ I3 q3) fun v s4 ⟨x4, H4, I4, r4, q4⟩ => ?_
  refine thn (hp pins s4 σ H4 x3 x4 old v _ I4 r3 r4 q4) fun new s5 ⟨x5, H5, I5, r5, q5⟩ => ?_
  exact thn (hs pins s5 σ H5 x1 x2 x5 ov iv new _ I5 r1 r2 r5 q5) fun _ s6 ⟨H6, I6, q6⟩ => ⟨σ, H6, I6, q6⟩
/-- ints -/
def ipI (f : Int → Int → Int) : TIp := fun x y H Q => ∃ i j, x = .int i ∧ y = .int j ∧ Q (.int (f i j)) H
theorem ip_add : PIp X .Add (ipI fun i j => i + j) := by
  intro pins s σ H x y v u Q I r1 r2 h
  obtain ⟨i, j, e1, e2, q⟩ := h
  subst e1; subst e2
  obtain ⟨t, rfl⟩ := r1
  obtain ⟨t', rfl⟩ := r2
  exact iadd_int ⟨.int _, H, I.tok _, ⟨_, rfl⟩, q⟩
theorem ip_sub : PIp X .Sub (ipI fun i j => i - j) := by
  intro pins s σ H x y v u Q I r1 r2 h
  obtain ⟨i, j, e1, e2, q⟩ := h
  subst e1; subst e2
  obtain ⟨t, rfl⟩ := r1
  obtain ⟨t', rfl⟩ := r2
  exact isub_int ⟨.int _, H, I.tok _, ⟨_, rfl⟩, q⟩
end

/-! ### while -/
section
variable {X : Cx} {pos : Pos}
/-- the invariant W with its measure -/
def tWhile (c : TT) (tb : TS) : TS := fun D σ H => ∃ W : Nat → St → Hp → Prop, (∃ m, W m σ H) ∧ ∀ m σ H, W m σ H →
  c σ H fun b H1 => if b = true then ∃ N : St → Hp → Prop, (∀ σ' H', N σ' H' → ∃ m', m' < m ∧ W m' σ' H') ∧ tb { D with nx := N, ct := N, bk := D.nx } σ H1 else D.nx σ H1
theorem ps_while {c : Expr} {body : List Stmt} {tc : TT} {tb : TS} (hp : PassesOwn (model X.prog X.w) X.A X.env X.xe) (hc : PT X c tc) (hb : PSs X body tb) : PS X (.While c body [] pos) (tWhile tc tb) := by
  intro pins s σ H D I h
  obtain ⟨W, ⟨m0, w0⟩, turn⟩ := h
  refine wpAny_While (codeAny_whileLoop (fun n s' => ∃ σ' H', Inv X pins σ' H' s' ∧ W n σ' H') ?_ m0 ⟨σ, H, I, w0⟩)
  rintro n s1 ⟨σ1, H1, I1, w1⟩
  refine wpAny_passesOwn hp (thn (hc pins s1 σ1 H1 _ I1 (turn n σ1 H1 w1)) fun b s2 ⟨H2, I2, q2⟩ => ?_)
  cases b with
  | true =>
    obtain ⟨N, hN, q2⟩ := q2
    rw [if_pos rfl]
    refine wpAny_passesOwn hp (thn (hb pins s2 σ1 H2 _ I2 q2) fun f s3 q3 => ?_)
    cases f with
    | next =>
      obtain ⟨σ3, H3, I3, n3⟩ := q3
      obtain ⟨m', hm, w3⟩ := hN σ3 H3 n3
      exact ⟨m', hm, σ3, H3, I3, w3⟩
    | cont =>
      obtain ⟨σ3, H3, I3, n3⟩ := q3
      obtain ⟨m', hm, w3⟩ := hN σ3 H3 n3
      exact ⟨m', hm, σ3, H3, I3, w3⟩
    | brk => exact q3
    | ret v => exact q3
  | false =>
    rw [if_neg Bool.false_ne_true]
    exact wpAny_execs_nil ⟨σ1, H2, I2, q2⟩
end

/-! ### what a loop or a comprehension walks -/
/-- at turn i: it yields x (the heap may grow), or it stops -/
structure It where
  go : Nat → Hp → Prop
  yld : Nat → Hp → V → Hp → Prop
  stop : Nat → Hp → Prop
/-- the iterator's own objects may turn: they are not the frame's, not pinned, younger than the entry (or a comprehension's own) -/
def FpOk (X : Cx) (pins : List (Addr × Obj)) (H : Hp) (b : Addr) : Prop :=
  H b = none ∧ b ≠ X.env.locals ∧ b ∉ X.fs ∧ (b ∈ X.ex ∨ X.s₀.heap.objs.size ≤ b) ∧ (∀ x c, X.env.cells.lookup x = some c → c ≠ b) ∧ ∀ p ∈ X.pn ++ pins, p.1 ≠ b
theorem Inv.fpOk {X : Cx} {pins : List (Addr × Obj)} {σ : St} {H H' : Hp} {s : Shared} {b : Addr} (I : Inv X pins σ H s) (hb : s.heap.objs.size ≤ b) (hn : H' b = none) : FpOk X pins H' b := by
  refine ⟨hn, Nat.ne_of_gt (Nat.lt_of_lt_of_le I.lt hb), I.nofs hb, .inr (Nat.le_trans I.sz hb), fun x c e z => ?_, fun p hp z => ?_⟩
  · obtain ⟨v, q⟩ := I.cell x c e
    exact absurd (Nat.lt_of_lt_of_le q.lt (by rw [z]; exact hb)) (Nat.lt_irrefl _)
  · exact absurd (Nat.lt_of_lt_of_le (Heap.lt_size (I.pin p hp).1) (by rw [z]; exact hb)) (Nat.lt_irrefl _)
structure Turn (P : Program) (w : World) (K : PySem.W.Frag) (tg : Expr) (J : It) (fp : List Addr) (it : Addr) (tn : Nat → Heap → Prop) : Prop where
  mem : it ∈ fp
  obj : ∀ i h, tn i h → ∀ b ∈ fp, ∃ o, h.get? b = some o ∧ ∀ v, o.data ≠ .cell v
  keep : ∀ i h h', tn i h → (∀ b ∈ fp, ∀ o, h.get? b = some o → h'.get? b = some o) → tn i h'
  item : ∀ (X : Cx), X.prog = P → X.w = w → X.K = K → X.calm = true → ∀ (i : Nat) (pins : List (Addr × Obj)) (s : Shared) (σ : St) (H : Hp) (E : Value → Shared → Prop), Inv X pins σ H s → (∀ b ∈ fp, FpOk X pins H b) → tn i s.heap → J.go i H →
    wpAny (model P w) X.A (pyNext (.ref it)) (fun r s1 => ∃ u, r = some u ∧
      wpAny (model P w) X.A (letOwnedTupleGo tg (.ref it) u) (fun _ s2 => ∃ x H', Inv X pins σ H' s2 ∧ RelV x u ∧ J.yld i H x H' ∧ tn (i + 1) s2.heap ∧ ∀ b ∈ fp, H' b = none) E s1) E s
  done : ∀ (X : Cx), X.prog = P → X.w = w → X.K = K → X.calm = true → ∀ (i : Nat) (pins : List (Addr × Obj)) (s : Shared) (σ : St) (H : Hp) (E : Value → Shared → Prop), Inv X pins σ H s → (∀ b ∈ fp, FpOk X pins H b) → tn i s.heap → J.stop i H →
    wpAny (model P w) X.A (pyNext (.ref it)) (fun r s1 => r = none ∧ Inv X pins σ H s1) E s
  self : ∀ (A : Around) (i : Nat) (s : Shared) (Q : Value → Shared → Prop) (E : Value → Shared → Prop), tn i s.heap → Q (.ref it) s → wpAny (model P w) A (pyIter (.ref it)) Q E s
abbrev TI := St → Hp → (It → Hp → Prop) → Prop
/-- an iterator has come -/
def PIE (X : Cx) (pins : List (Addr × Obj)) (σ : St) (tg : Expr) (R : It → Hp → Prop) (itv : Value) (s2 : Shared) : Prop :=
  ∃ (it : Addr) (fp : List Addr) (tn : Nat → Heap → Prop) (J : It) (H' : Hp), itv = .ref it ∧ Inv X pins σ H' s2 ∧ Turn X.prog X.w X.K tg J fp it tn ∧ tn 0 s2.heap ∧ (∀ b ∈ fp, FpOk X pins H' b) ∧ R J H'
def PI (X : Cx) (tg iter : Expr) (wi : TI) : Prop :=
  ∀ (pins : List (Addr × Obj)) (s : Shared) (σ : St) (H : Hp) (R : It → Hp → Prop), Inv X pins σ H s → wi σ H R →
    wpAny (model X.prog X.w) X.A (eval iter X.env) (fun v s1 => wpAny (model X.prog X.w) X.A (pyIter v) (PIE X pins σ tg R) X.xe s1) X.xe s

/-- the step ahead of the store is nothing for an iterator that keeps no tuple -/
theorem go_of {M : Model} {A : Around} {E : Value → Shared → Prop} {s : Shared} {tg : Expr} {it : Addr} {u : Value} {o : Obj} {n : String} {vs : Array Value} {Q : Unit → Shared → Prop} (ho : s.heap.get? it = some o) (hc : o.cls = .type n) (hd : o.data = .fields vs)
    (hn : ["enumerate", "zip", "dict_itemiterator", "dict_reverseitemiterator", "odict_iterator", "itertools.zip_longest", "itertools.pairwise"].contains n = false) (hQ : Q () s) : wpAny M A (letOwnedTupleGo tg (.ref it) u) Q E s := by
  unfold letOwnedTupleGo
  cases tg <;> first
    | exact wpAny_pure hQ
    | (cases u <;> first
        | exact wpAny_pure hQ
        | (refine wpAny_bind (wpAny_load ho ?_)
           rw [hc, hd]
           show wpAny M A (if (["enumerate", "zip", "dict_itemiterator", "dict_reverseitemiterator", "odict_iterator", "itertools.zip_longest", "itertools.pairwise"].contains n && vs[0]? == some (rawInt _)) = true then _ else _) Q E s
           rw [if_neg (by intro h; rw [hn, Bool.false_and] at h; cases h)]
           exact wpAny_pure hQ))

/-- the list at a, as it stands at each turn (a loop may append to it) -/
def Itl (K : PySem.W.Frag) (a : Addr) : It :=
  ⟨fun i H => ∃ xs x, SqL K H a xs ∧ xs[i]? = some x, fun i H x H' => H' = H ∧ ∀ xs, SqL K H a xs → xs[i]? = some x, fun i H => ∃ xs, SqL K H a xs ∧ xs.length ≤ i⟩
def Itt (K : PySem.W.Frag) (a : Addr) : It :=
  ⟨fun i H => ∃ xs x, SqT K H a xs ∧ xs[i]? = some x, fun i H x H' => H' = H ∧ ∀ xs, SqT K H a xs → xs[i]? = some x, fun i H => ∃ xs, SqT K H a xs ∧ xs.length ≤ i⟩
/-- lo, lo + 1, .. (n of them) -/
def Itr (lo : Int) (n : Nat) : It := ⟨fun i _ => i < n, fun i H x H' => H' = H ∧ x = .int (lo + i), fun i _ => n ≤ i⟩
theorem turn_list {P : Program} {w : World} {K : PySem.W.Frag} {tg : Expr} (a it : Addr) : Turn P w K tg (Itl K a) [it] it (fun i h => h.IsListIter it a i) where
  mem := by simp
  obj := fun i h st b hb => by
    have e : b = it := by simpa using hb
    subst e
    obtain ⟨o, e, c, d⟩ := st
    exact ⟨o, e, fun v z => by rw [d] at z; cases z⟩
  keep := fun i h h' st k => st.at fun o e => k it (by simp) o e
  item := by
    intro X hP hw hK hc i pins s σ H E I hf st hg
    subst hP hw hK
    obtain ⟨xs, x, hq, hx⟩ := hg
    obtain ⟨its, rv, p, hz⟩ := I.list hq
    obtain ⟨u, hu, ru⟩ := rv.get hx
    obtain ⟨f0, f1, f2, f3, f4, f5⟩ := hf it (by simp)
    refine wpAny_pyNext_list_item st p.isList (x := u) (by simpa using hu) fun h' st' sb => ?_
    have I1 : Inv X pins σ H { s with heap := h' } := I.turned (t' := s.toks) (fun b o hb e => (sb.2 b hb).trans e) f0 f1 f3 f4 f5
    obtain ⟨o, e, c, d⟩ := id st'
    exact ⟨u, rfl, go_of (s := { s with heap := h' }) e c d (by decide) ⟨x, H, I1, ru, ⟨rfl, fun ys hy => by rw [I.list_inj hy hq]; exact hx⟩, st', fun b hb => (hf b hb).1⟩⟩
  done := by
    intro X hP hw hK hc i pins s σ H E I hf st hg
    subst hP hw hK
    obtain ⟨xs, hq, hx⟩ := hg
    obtain ⟨its, rv, p, hz⟩ := I.list hq
    obtain ⟨f0, f1, f2, f3, f4, f5⟩ := hf it (by simp)
    have hl := rv.length
    exact wpAny_pyNext_list_end (I.ok.hd hc) st p.isList (by simp; omega) fun h' eb => ⟨rfl, I.turned (t' := s.toks) (fun b o hb e => eb b o hb e) f0 f1 f3 f4 f5⟩
  self := fun _ _ _ _ _ st h => wpAny_pyIter_listiter st h
theorem turn_tuple {P : Program} {w : World} {K : PySem.W.Frag} {tg : Expr} (a it : Addr) : Turn P w K tg (Itt K a) [it] it (fun i h => h.IsTupleIter it a i) where
  mem := by simp
  obj := fun i h st b hb => by
    have e : b = it := by simpa using hb
    subst e
    obtain ⟨o, e, c, d⟩ := st
    exact ⟨o, e, fun v z => by rw [d] at z; cases z⟩
  keep := fun i h h' st k => st.at fun o e => k it (by simp) o e
  item := by
    intro X hP hw hK hc i pins s σ H E I hf st hg
    subst hP hw hK
    obtain ⟨xs, x, hq, hx⟩ := hg
    obtain ⟨its, rv, p, hz⟩ := I.tuple hq
    obtain ⟨u, hu, ru⟩ := rv.get hx
    obtain ⟨f0, f1, f2, f3, f4, f5⟩ := hf it (by simp)
    refine wpAny_pyNext_tuple_item st (show s.heap.IsTuple a its.toArray from p) (x := u) (by simpa using hu) fun h' st' sb => ?_
    have I1 : Inv X pins σ H { s with heap := h' } := I.turned (t' := s.toks) (fun b o hb e => (sb.2 b hb).trans e) f0 f1 f3 f4 f5
    obtain ⟨o, e, c, d⟩ := id st'
    exact ⟨u, rfl, go_of (s := { s with heap := h' }) e c d (by decide) ⟨x, H, I1, ru, ⟨rfl, fun ys hy => by rw [I.tuple_inj hy hq]; exact hx⟩, st', fun b hb => (hf b hb).1⟩⟩
  done := by
    intro X hP hw hK hc i pins s σ H E I hf st hg
    subst hP hw hK
    obtain ⟨xs, hq, hx⟩ := hg
    obtain ⟨its, rv, p, hz⟩ := I.tuple hq
    obtain ⟨f0, f1, f2, f3, f4, f5⟩ := hf it (by simp)
    have hl := rv.length
    exact wpAny_pyNext_tuple_end (I.ok.hd hc) st (show s.heap.IsTuple a its.toArray from p) (by simp; omega) fun h' eb => ⟨rfl, I.turned (t' := s.toks) (fun b o hb e => eb b o hb e) f0 f1 f3 f4 f5⟩
  self := fun _ _ _ _ _ st h => wpAny_pyIter_tupleiter st h
theorem turn_range {P : Program} {w : World} {K : PySem.W.Frag} {tg : Expr} (it : Addr) (lo : Int) (n : Nat) : Turn P w K tg (Itr lo n) [it] it (fun i h => IsRangeIter h it (lo + (i : Nat) * 1) ((n : Int) - (i : Nat)) 1) where
  mem := by simp
  obj := fun i h st b hb => by
    have e : b = it := by simpa using hb
    subst e
    exact ⟨_, st, fun v z => by
      have z' : Data.fields _ = Data.cell v := z
      cases z'⟩
  keep := fun i h h' st k => k it (by simp) _ st
  item := by
    intro X hP hw hK hc i pins s σ H E I hf st hg
    subst hP hw hK
    obtain ⟨f0, f1, f2, f3, f4, f5⟩ := hf it (by simp)
    have W := Walks.range (prog := X.prog) (w := X.w) (I.ok.hd hc) it lo 1 n
    refine W.item i s _ _ hg st fun v h' tk hv st' kk => ?_
    obtain ⟨t, rfl⟩ := hv
    have I1 : Inv X pins σ H { s with heap := h', toks := tk } := I.turned (fun b o hb e => kk b o (by simpa using hb) e) f0 f1 f3 f4 f5
    refine ⟨_, rfl, go_of (s := { s with heap := h', toks := tk }) (n := "range_iterator") st' rfl rfl (by decide) ⟨.int (lo + i), H, I1, ⟨t, ?_⟩, ⟨rfl, rfl⟩, st', fun b hb => (hf b hb).1⟩⟩
    rw [Int.mul_one]
  done := by
    intro X hP hw hK hc i pins s σ H E I hf st hg
    subst hP hw hK
    obtain ⟨f0, f1, f2, f3, f4, f5⟩ := hf it (by simp)
    exact wpAny_pyNext_range_end (I.ok.hd hc) st (by have : n ≤ i := hg; omega) fun h' eb => ⟨rfl, I.turned (t' := s.toks) (fun b o hb e => eb b o hb e) f0 f1 f3 f4 f5⟩
  self := fun _ _ _ _ _ st h => wpAny_pyIter_rangeiter st h
end L2

namespace L2
open PySem PySem.Spec PyProof.Rows
section
variable {X : Cx} {tg : Expr}
def iList (K : PySem.W.Frag) (tl : TE) : TI := fun σ H R => tl σ H fun x H1 => ∃ a, x = .ref a ∧ (∃ xs, SqL K H1 a xs) ∧ R (Itl K a) H1
def iTup (K : PySem.W.Frag) (tl : TE) : TI := fun σ H R => tl σ H fun x H1 => ∃ a, x = .ref a ∧ (∃ xs, SqT K H1 a xs) ∧ R (Itt K a) H1
theorem pi_list {l : Expr} {tl : TE} (hl : PE X l tl) : PI X tg l (iList X.K tl) := by
  intro pins s σ H R I h
  refine thn (hl pins s σ H _ I h) fun v s1 ⟨x, H1, I1, r1, q1⟩ => ?_
  obtain ⟨a, e, ⟨xs, hq⟩, q⟩ := q1
  subst e
  cases r1
  obtain ⟨its, rv, p, hz⟩ := I1.list hq
  refine wpAny_pyIter_list p.isList ?_
  refine ⟨s1.heap.objs.size, [s1.heap.objs.size], _, _, H1, rfl, I1.kept (t' := s1.toks) fun b o e => Heap.get?_push_of_some _ e, turn_list a _, ⟨_, Heap.get?_push_size _ rfl, rfl, rfl⟩, fun b hb => ?_, q⟩
  have e : b = s1.heap.objs.size := by simpa using hb
  subst e
  exact I1.fpOk (Nat.le_refl _) (I1.hok.fresh (Nat.le_refl _))
theorem pi_tup {l : Expr} {tl : TE} (hl : PE X l tl) : PI X tg l (iTup X.K tl) := by
  intro pins s σ H R I h
  refine thn (hl pins s σ H _ I h) fun v s1 ⟨x, H1, I1, r1, q1⟩ => ?_
  obtain ⟨a, e, ⟨xs, hq⟩, q⟩ := q1
  subst e
  cases r1
  obtain ⟨its, rv, p, hz⟩ := I1.tuple hq
  refine wpAny_pyIter_tuple (show s1.heap.IsTuple a its.toArray from p) ?_
  refine ⟨s1.heap.objs.size, [s1.heap.objs.size], _, _, H1, rfl, I1.kept (t' := s1.toks) fun b o e => Heap.get?_push_of_some _ e, turn_tuple a _, ⟨_, Heap.get?_push_size _ rfl, rfl, rfl⟩, fun b hb => ?_, q⟩
  have e : b = s1.heap.objs.size := by simpa using hb
  subst e
  exact I1.fpOk (Nat.le_refl _) (I1.hok.fresh (Nat.le_refl _))
/-- a range object just made, walked -/
theorem range_it {pins : List (Addr × Obj)} {σ : St} {H : Hp} {s : Shared} {R : It → Hp → Prop} {E : Value → Shared → Prop} {lo hi : Int} {t u v : Tok} {tk : Nat} (I : Inv X pins σ H s) (h1 : -(2 ^ 62) ≤ lo) (h2 : lo < 2 ^ 62) (h3 : -(2 ^ 62) ≤ hi) (h4 : hi < 2 ^ 62)
    (q : R (Itr lo (hi - lo).toNat) H) : wpAny (model X.prog X.w) X.A (pyIter (.ref s.heap.objs.size)) (PIE X pins σ tg R) E { s with heap := s.heap.push { cls := .type "range", data := .fields #[.int lo t, .int hi u, .int 1 v] }, toks := tk } := by
  refine wpAny_pyIter_range (IsRange.new ..) (small_one h1 h2 h3 h4) ?_
  have I1 : Inv X pins σ H { s with heap := s.heap.push { cls := .type "range", data := .fields #[.int lo t, .int hi u, .int 1 v] }, toks := tk } := I.kept fun b o e => Heap.get?_push_of_some _ e
  refine ⟨(s.heap.push { cls := .type "range", data := .fields #[.int lo t, .int hi u, .int 1 v] }).objs.size, [(s.heap.push { cls := .type "range", data := .fields #[.int lo t, .int hi u, .int 1 v] }).objs.size], _, _, H, rfl,
    I1.kept (t' := tk) fun b o e => Heap.get?_push_of_some _ e, turn_range _ lo (hi - lo).toNat, ?_, fun b hb => ?_, q⟩
  · have e1 : lo + ((0 : Nat) : Int) * 1 = lo := by simp
    have e2 : (((hi - lo).toNat : Nat) : Int) - ((0 : Nat) : Int) = Builtin.Range.rangeSize lo hi 1 := by rw [rangeSize_one]; split <;> omega
    show IsRangeIter _ _ (lo + ((0 : Nat) : Int) * 1) ((((hi - lo).toNat : Nat) : Int) - ((0 : Nat) : Int)) 1
    rw [e1, e2]
    exact Heap.get?_push_size _ rfl
  · have e : b = (s.heap.push { cls := .type "range", data := .fields #[.int lo t, .int hi u, .int 1 v] }).objs.size := by simpa using hb
    subst e
    exact I1.fpOk (Nat.le_refl _) (I1.hok.fresh (Nat.le_refl _))
def iRng1 (ta : TA) : TI := fun σ H R => ta σ H fun vs H1 => ∃ j : Int, vs = [.int j] ∧ -(2 ^ 62) ≤ j ∧ j < 2 ^ 62 ∧ R (Itr 0 j.toNat) H1
def iRng2 (ta : TA) : TI := fun σ H R => ta σ H fun vs H1 => ∃ i j : Int, vs = [.int i, .int j] ∧ (-(2 ^ 62) ≤ i ∧ i < 2 ^ 62 ∧ -(2 ^ 62) ≤ j ∧ j < 2 ^ 62) ∧ R (Itr i (j - i).toNat) H1
theorem pi_range1 {a : Expr} {ta : TA} {p pos : Pos} (hg : Gl X "range") (hm : X.mg "range" = none) (ha : PA X [a] ta) (hs : starEach [a] X.env = [(false, eval a X.env)] := by rfl) : PI X tg (.Call (.Name "range" p) [a] [] pos) (iRng1 ta) := by
  intro pins s σ H R I h
  refine Call_ (ld_blt I hg hm boot_range (PyProof.Rows.callWith_type1 (thn (ha pos pins s σ H _ I h) fun us s1 ⟨vs, H1, I1, r1, q1⟩ => ?_) hs rfl))
  obtain ⟨j, e, q1, q2, q⟩ := q1
  subst e
  cases r1 with
  | cons r rr =>
    cases rr
    obtain ⟨t, rfl⟩ := r
    exact call_range_1 (range_it I1 (by omega) (by omega) q1 q2 (by simpa using q))
theorem pi_range2 {a b : Expr} {ta : TA} {p pos : Pos} (hg : Gl X "range") (hm : X.mg "range" = none) (ha : PA X [a, b] ta) (hs : starEach [a, b] X.env = [(false, eval a X.env), (false, eval b X.env)] := by rfl) (hs2 : starEach [b] X.env = [(false, eval b X.env)] := by rfl) :
    PI X tg (.Call (.Name "range" p) [a, b] [] pos) (iRng2 ta) := by
  intro pins s σ H R I h
  refine Call_ (ld_blt I hg hm boot_range (PyProof.Rows.callWith_type1 (thn (ha pos pins s σ H _ I h) fun us s1 ⟨vs, H1, I1, r1, q1⟩ => ?_) (by rw [hs, hs2]) (by rw [hs2]; rfl)))
  obtain ⟨i, j, e, ⟨q1, q2, q3, q4⟩, q⟩ := q1
  subst e
  cases r1 with
  | cons r rr =>
    cases rr with
    | cons r' rr =>
      cases rr
      obtain ⟨t, rfl⟩ := r
      obtain ⟨t', rfl⟩ := r'
      exact call_range_2 (range_it I1 q1 q2 q3 q4 q)

/-! ### for -/
/-- W: the invariant by the turn and a measure; N: what the body is to reach -/
def tFor (wi : TI) (g : TG) (tb : TS) : TS := fun D σ H => wi σ H fun J H1 => ∃ W : Nat → Nat → St → Hp → Prop, (∃ m, W 0 m σ H1) ∧ ∀ i m σ H, W i m σ H →
  (J.stop i H ∧ D.nx σ H) ∨ (J.go i H ∧ ∃ N : St → Hp → Prop, (∀ σ' H', N σ' H' → ∃ m', m' < m ∧ W (i + 1) m' σ' H') ∧ ∀ x H', J.yld i H x H' → g x σ H' fun σ2 H2 => tb { D with nx := N, ct := N, bk := D.nx } σ2 H2)
/-- the records at fp as they stand -/
def pinsAt (fp : List Addr) (h : Heap) : List (Addr × Obj) := fp.filterMap fun b => (h.get? b).map fun o => (b, o)
theorem mem_pinsAt {fp : List Addr} {h : Heap} {b : Addr} {o : Obj} (hb : b ∈ fp) (e : h.get? b = some o) : (b, o) ∈ pinsAt fp h := List.mem_filterMap.mpr ⟨b, hb, by rw [e]; rfl⟩
theorem of_pinsAt {fp : List Addr} {h : Heap} {p : Addr × Obj} (hp : p ∈ pinsAt fp h) : p.1 ∈ fp ∧ h.get? p.1 = some p.2 := by
  obtain ⟨b, hb, e⟩ := List.mem_filterMap.mp hp
  cases q : h.get? b with
  | none => rw [q] at e; cases e
  | some o =>
    rw [q] at e
    have e' : (b, o) = p := Option.some.inj e
    subst e'
    exact ⟨hb, q⟩
theorem Inv.pinned {pins : List (Addr × Obj)} {σ : St} {H : Hp} {s : Shared} {fp : List Addr} (I : Inv X pins σ H s) (hf : ∀ b ∈ fp, FpOk X pins H b) (ho : ∀ b ∈ fp, ∃ o, s.heap.get? b = some o ∧ ∀ v, o.data ≠ .cell v) : Inv X (pins ++ pinsAt fp s.heap) σ H s :=
  I.pins_of fun p hp => (List.mem_append.mp hp).elim (fun z => I.pin p (List.mem_append_right _ z)) fun z => by
    obtain ⟨hb, e⟩ := of_pinsAt z
    obtain ⟨f0, f1, f2, _⟩ := hf p.1 hb
    obtain ⟨o, e', d⟩ := ho p.1 hb
    rw [e] at e'; cases e'
    exact ⟨e, f0, f1, f2, d⟩
theorem Inv.unpinned {pins pl : List (Addr × Obj)} {σ : St} {H : Hp} {s : Shared} (I : Inv X (pins ++ pl) σ H s) : Inv X pins σ H s := I.pins_of fun p hp => I.pin p (List.mem_append_right _ (List.mem_append_left _ hp))
theorem ps_for {iter : Expr} {body : List Stmt} {wi : TI} {g : TG} {tb : TS} {pos : Pos} (hp : PassesOwn (model X.prog X.w) X.A X.env X.xe) (hc : X.calm = true) (hi : PI X tg iter wi) (hg : PG X tg g) (hb : PSs X body tb)
    (hs : ∀ x, foldedSetIterable iter X.env x = pure x := by intro _; rfl) : PS X (.For tg iter body [] pos) (tFor wi g tb) := by
  intro pins s σ H D I h
  refine wpAny_For (thn (hi pins s σ H _ I h) fun v s1 h1 => thn h1 fun itv s2 h2 => ?_) hs
  obtain ⟨it, fp, tn, J, H2, e, I2, T, st2, f2, W, ⟨m0, w0⟩, turn⟩ := h2
  subst e
  -- what stays true of the iterator's objects through the loop
  have stat : ∀ {H' : Hp}, (∀ b ∈ fp, H' b = none) → ∀ b ∈ fp, FpOk X pins H' b := fun hn b hb => ⟨hn b hb, (f2 b hb).2⟩
  refine codeAny_forLoop_any (fun n s' => ∃ i σ' H', Inv X pins σ' H' s' ∧ tn i s'.heap ∧ (∀ b ∈ fp, H' b = none) ∧ W i n σ' H') ?_ m0 ⟨0, σ, H2, I2, st2, fun b hb => (f2 b hb).1, w0⟩
  rintro n s3 ⟨i, σ3, H3, I3, st3, fr3, w3⟩
  rcases turn i n σ3 H3 w3 with ⟨stop, qn⟩ | ⟨go, N, hN, step⟩
  · refine wpAny_passesOwn hp (thn (T.done X rfl rfl rfl hc i pins s3 σ3 H3 X.xe I3 (stat fr3) st3 stop) fun r s4 ⟨hr, I4⟩ => ?_)
    subst hr
    exact wpAny_execs_nil ⟨σ3, H3, I4, qn⟩
  · refine wpAny_passesOwn hp (thn (T.item X rfl rfl rfl hc i pins s3 σ3 H3 X.xe I3 (stat fr3) st3 go) fun r s4 ⟨u, hr, h4⟩ => ?_)
    subst hr
    refine wpAny_passesOwn hp (thn h4 fun _ s5 ⟨x, H5, I5, r5, y5, st5, fr5⟩ => ?_)
    have I5' := I5.pinned (stat fr5) (T.obj _ _ st5)
    refine wpAny_passesOwn hp (thn (hg _ s5 σ3 H5 x u _ I5' r5 (step x H5 y5)) fun _ s6 ⟨σ6, H6, I6, q6⟩ => ?_)
    refine wpAny_passesOwn hp (thn (hb _ s6 σ6 H6 _ I6 q6) fun f s7 q7 => ?_)
    have again : ∀ {σ7 : St} {H7 : Hp}, Inv X (pins ++ pinsAt fp s5.heap) σ7 H7 s7 → N σ7 H7 → ∃ m, m < n ∧ ∃ i σ' H', Inv X pins σ' H' s7 ∧ tn i s7.heap ∧ (∀ b ∈ fp, H' b = none) ∧ W i m σ' H' := fun {σ7 H7} I7 n7 => by
      obtain ⟨m', hm, w7⟩ := hN σ7 H7 n7
      refine ⟨m', hm, i + 1, σ7, H7, I7.unpinned, T.keep _ _ _ st5 fun b hb o e => (I7.pin (b, o) (List.mem_append_right _ (List.mem_append_right _ (mem_pinsAt hb e)))).1, fun b hb => ?_, w7⟩
      obtain ⟨o, e, d⟩ := T.obj _ _ st5 b hb
      exact (I7.pin (b, o) (List.mem_append_right _ (List.mem_append_right _ (mem_pinsAt hb e)))).2.1
    cases f with
    | next => obtain ⟨σ7, H7, I7, n7⟩ := q7; exact again I7 n7
    | cont => obtain ⟨σ7, H7, I7, n7⟩ := q7; exact again I7 n7
    | brk => obtain ⟨σ7, H7, I7, q7⟩ := q7; exact ⟨σ7, H7, I7.unpinned, q7⟩
    | ret v => obtain ⟨x7, σ7, H7, I7, r7, q7⟩ := q7; exact ⟨x7, σ7, H7, I7.unpinned, r7, q7⟩
end

/-! ### the forms one uses -/
/-- over a list that the body leaves as it is -/
theorem for_list {K : PySem.W.Frag} {a : Addr} {xs : List V} {g : TG} {tb : TS} {D : Ends} {σ : St} {H : Hp} (Pv : Nat → St → Hp → Prop) (h0 : Pv 0 σ H) (hl : ∀ i σ H, i ≤ xs.length → Pv i σ H → SqL K H a xs)
    (hs : ∀ i x σ H, xs[i]? = some x → Pv i σ H → g x σ H fun σ2 H2 => tb { D with nx := Pv (i + 1), ct := Pv (i + 1), bk := D.nx } σ2 H2) (hd : ∀ σ H, Pv xs.length σ H → D.nx σ H) :
    ∃ W : Nat → Nat → St → Hp → Prop, (∃ m, W 0 m σ H) ∧ ∀ i m σ H, W i m σ H →
      ((Itl K a).stop i H ∧ D.nx σ H) ∨ ((Itl K a).go i H ∧ ∃ N : St → Hp → Prop, (∀ σ' H', N σ' H' → ∃ m', m' < m ∧ W (i + 1) m' σ' H') ∧ ∀ x H', (Itl K a).yld i H x H' → g x σ H' fun σ2 H2 => tb { D with nx := N, ct := N, bk := D.nx } σ2 H2) := by
  refine ⟨fun i m σ H => m = xs.length - i ∧ i ≤ xs.length ∧ Pv i σ H, ⟨xs.length, by simp, Nat.zero_le _, h0⟩, ?_⟩
  rintro i m σ H ⟨rfl, hi, p⟩
  have q := hl i σ H hi p
  by_cases hlt : i < xs.length
  · refine .inr ⟨⟨xs, xs[i], q, by simp [hlt]⟩, Pv (i + 1), fun σ' H' p' => ⟨xs.length - (i + 1), by omega, rfl, hlt, p'⟩, fun x H' y => ?_⟩
    obtain ⟨e, y⟩ := y
    subst e
    exact hs i x σ _ (y xs q) p
  · have e : i = xs.length := by omega
    subst e
    exact .inl ⟨⟨xs, q, Nat.le_refl _⟩, hd σ H p⟩
theorem for_tup {K : PySem.W.Frag} {a : Addr} {xs : List V} {g : TG} {tb : TS} {D : Ends} {σ : St} {H : Hp} (Pv : Nat → St → Hp → Prop) (h0 : Pv 0 σ H) (hl : ∀ i σ H, i ≤ xs.length → Pv i σ H → SqT K H a xs)
    (hs : ∀ i x σ H, xs[i]? = some x → Pv i σ H → g x σ H fun σ2 H2 => tb { D with nx := Pv (i + 1), ct := Pv (i + 1), bk := D.nx } σ2 H2) (hd : ∀ σ H, Pv xs.length σ H → D.nx σ H) :
    ∃ W : Nat → Nat → St → Hp → Prop, (∃ m, W 0 m σ H) ∧ ∀ i m σ H, W i m σ H →
      ((Itt K a).stop i H ∧ D.nx σ H) ∨ ((Itt K a).go i H ∧ ∃ N : St → Hp → Prop, (∀ σ' H', N σ' H' → ∃ m', m' < m ∧ W (i + 1) m' σ' H') ∧ ∀ x H', (Itt K a).yld i H x H' → g x σ H' fun σ2 H2 => tb { D with nx := N, ct := N, bk := D.nx } σ2 H2) := by
  refine ⟨fun i m σ H => m = xs.length - i ∧ i ≤ xs.length ∧ Pv i σ H, ⟨xs.length, by simp, Nat.zero_le _, h0⟩, ?_⟩
  rintro i m σ H ⟨rfl, hi, p⟩
  have q := hl i σ H hi p
  by_cases hlt : i < xs.length
  · refine .inr ⟨⟨xs, xs[i], q, by simp [hlt]⟩, Pv (i + 1), fun σ' H' p' => ⟨xs.length - (i + 1), by omega, rfl, hlt, p'⟩, fun x H' y => ?_⟩
    obtain ⟨e, y⟩ := y
    subst e
    exact hs i x σ _ (y xs q) p
  · have e : i = xs.length := by omega
    subst e
    exact .inl ⟨⟨xs, q, Nat.le_refl _⟩, hd σ H p⟩
theorem for_range {lo : Int} {n : Nat} {g : TG} {tb : TS} {D : Ends} {σ : St} {H : Hp} (Pv : Nat → St → Hp → Prop) (h0 : Pv 0 σ H)
    (hs : ∀ i σ H, i < n → Pv i σ H → g (.int (lo + i)) σ H fun σ2 H2 => tb { D with nx := Pv (i + 1), ct := Pv (i + 1), bk := D.nx } σ2 H2) (hd : ∀ σ H, Pv n σ H → D.nx σ H) :
    ∃ W : Nat → Nat → St → Hp → Prop, (∃ m, W 0 m σ H) ∧ ∀ i m σ H, W i m σ H →
      ((Itr lo n).stop i H ∧ D.nx σ H) ∨ ((Itr lo n).go i H ∧ ∃ N : St → Hp → Prop, (∀ σ' H', N σ' H' → ∃ m', m' < m ∧ W (i + 1) m' σ' H') ∧ ∀ x H', (Itr lo n).yld i H x H' → g x σ H' fun σ2 H2 => tb { D with nx := N, ct := N, bk := D.nx } σ2 H2) := by
  refine ⟨fun i m σ H => m = n - i ∧ i ≤ n ∧ Pv i σ H, ⟨n, by simp, Nat.zero_le _, h0⟩, ?_⟩
  rintro i m σ H ⟨rfl, hi, p⟩
  by_cases hlt : i < n
  · refine .inr ⟨hlt, Pv (i + 1), fun σ' H' p' => ⟨n - (i + 1), by omega, rfl, hlt, p'⟩, fun x H' y => ?_⟩
    obtain ⟨e, y⟩ := y
    subst e y
    exact hs i σ _ hlt p
  · have e : i = n := by omega
    subst e
    exact .inl ⟨Nat.le_refl _, hd σ H p⟩
/-- while, by a word and a measure of the state -/
theorem while_by {c : TT} {tb : TS} {D : Ends} {σ : St} {H : Hp} (Pv : St → Hp → Prop) (μ : St → Hp → Nat) (h0 : Pv σ H)
    (hs : ∀ σ H, Pv σ H → c σ H fun b H1 => if b = true then tb { D with nx := fun σ' H' => Pv σ' H' ∧ μ σ' H' < μ σ H, ct := fun σ' H' => Pv σ' H' ∧ μ σ' H' < μ σ H, bk := D.nx } σ H1 else D.nx σ H1)
    (mono : ∀ σ H Q Q', (∀ b H1, Q b H1 → Q' b H1) → c σ H Q → c σ H Q') : tWhile c tb D σ H := by
  refine ⟨fun m σ H => m = μ σ H ∧ Pv σ H, ⟨_, rfl, h0⟩, ?_⟩
  rintro m σ H ⟨rfl, p⟩
  refine mono σ H _ _ (fun b H1 q => ?_) (hs σ H p)
  cases b with
  | true => exact ⟨_, fun σ' H' ⟨p', l⟩ => ⟨_, l, rfl, p'⟩, q⟩
  | false => exact q
end L2

namespace L2
open PySem PySem.Spec PyProof.Rows

abbrev R2 := V → V → Hp → VK → Prop
/-- a two-place operation on values: f is binaryOp op, inplaceOp op or compareOp op -/
def OpR (X : Cx) (f : Value → Value → Sem Value) (r : R2) : Prop :=
  ∀ (pins : List (Addr × Obj)) (s : Shared) (σ : St) (H : Hp) (x y : V) (v u : Value) (Q : VK), Inv X pins σ H s → RelV x v → RelV y u → r x y H Q →
    wpAny (model X.prog X.w) X.A (f v u) (EP X pins σ Q) X.xe s
/-- a one-place operation -/
def UnR (X : Cx) (f : Value → Sem Value) (r : V → Hp → VK → Prop) : Prop :=
  ∀ (pins : List (Addr × Obj)) (s : Shared) (σ : St) (H : Hp) (x : V) (v : Value) (Q : VK), Inv X pins σ H s → RelV x v → r x H Q →
    wpAny (model X.prog X.w) X.A (f v) (EP X pins σ Q) X.xe s
/-- a call of a value that is known (a builtin, a type) with values -/
def CallR (X : Cx) (f : Value) (r : List V → Hp → VK → Prop) : Prop :=
  ∀ (pins : List (Addr × Obj)) (s : Shared) (σ : St) (H : Hp) (xs : List V) (us : List Value) (Q : VK), Inv X pins σ H s → Vals xs us → r xs H Q →
    wpAny (model X.prog X.w) X.A (call f us) (EP X pins σ Q) X.xe s
/-- a value's truth -/
def TruR (X : Cx) (r : V → Hp → (Bool → Hp → Prop) → Prop) : Prop :=
  ∀ (pins : List (Addr × Obj)) (s : Shared) (σ : St) (H : Hp) (x : V) (v : Value) (Q : Bool → Hp → Prop), Inv X pins σ H s → RelV x v → r x H Q →
    wpAny (model X.prog X.w) X.A (truthy v) (TP X pins σ Q) X.xe s

def tOp (r : R2) (ta tb : TE) : TE := fun σ H Q => ta σ H fun x H1 => tb σ H1 fun y H2 => r x y H2 Q
def tUn (r : V → Hp → VK → Prop) (ta : TE) : TE := fun σ H Q => ta σ H fun x H1 => r x H1 Q
/-- ints in, under C, and a value out -/
def rI (C : Int → Int → Prop) (g : Int → Int → V) : R2 := fun x y H Q => ∃ i j, x = .int i ∧ y = .int j ∧ C i j ∧ Q (g i j) H
def rI0 (g : Int → Int → V) : R2 := fun x y H Q => ∃ i j, x = .int i ∧ y = .int j ∧ Q (g i j) H
def rU (g : Int → V) : V → Hp → VK → Prop := fun x H Q => ∃ i, x = .int i ∧ Q (g i) H

section
variable {X : Cx} {a b c : Expr} {ta tb tc : TE} {pos : Pos}

theorem binT (ha : PE X a ta) (hb : PE X b tb) {pins : List (Addr × Obj)} {s : Shared} {σ : St} {H : Hp} {R : V → V → Hp → Prop} (I : Inv X pins σ H s)
    (h : ta σ H fun x H1 => tb σ H1 fun y H2 => R x y H2) {Q : Value → Shared → Prop} {f : Value → Value → Sem Value}
    (hf : ∀ v u s2 x y H2, Inv X pins σ H2 s2 → RelV x v → RelV y u → R x y H2 → wpAny (model X.prog X.w) X.A (f v u) Q X.xe s2) :
    wpAny (model X.prog X.w) X.A (eval a X.env) (fun v s₁ => wpAny (model X.prog X.w) X.A (eval b X.env) (fun u s₂ => wpAny (model X.prog X.w) X.A (f v u) Q X.xe s₂) X.xe s₁) X.xe s := by
  refine thn (ha pins s σ H _ I h) fun v s1 ⟨x, H1, I1, r1, q1⟩ => ?_
  refine thn (hb pins s1 σ H1 _ I1 q1) fun u s2 ⟨y, H2, I2, r2, q2⟩ => ?_
  exact hf v u s2 x y H2 I2 r1 r2 q2

theorem pe_op {op : Operator} {r : R2} (ho : OpR X (binaryOp op) r) (ha : PE X a ta) (hb : PE X b tb) : PE X (.BinOp a op b pos) (tOp r ta tb) := by
  intro pins s σ H Q I h
  exact wpAny_BinOp (binT ha hb I h fun v u s2 x y H2 I2 rx ry q => ho pins s2 σ H2 x y v u Q I2 rx ry q)
theorem pe_un {op : UnaryOp} {r : V → Hp → VK → Prop} (ho : UnR X (unaryOp op) r) (ha : PE X a ta) : PE X (.UnaryOp op a pos) (tUn r ta) := by
  intro pins s σ H Q I h
  exact UnaryOp_ (thn (ha pins s σ H _ I h) fun v s1 ⟨x, H1, I1, r1, q1⟩ => ho pins s1 σ H1 x v Q I1 r1 q1)
/-- a op= e at a name: the name's slot i -/
theorem augR {op : Operator} {r : R2} (ho : OpR X (inplaceOp op) r) {pins : List (Addr × Obj)} {s : Shared} {σ : St} {H : Hp} {x y : V} {v u : Value} {Q : VK} (I : Inv X pins σ H s)
    (rx : RelV x v) (ry : RelV y u) (q : r x y H Q) : wpAny (model X.prog X.w) X.A (inplaceOp op v u) (EP X pins σ Q) X.xe s := ho pins s σ H x y v u Q I rx ry q

/-! ### ints -/
theorem opI {f : Value → Value → Sem Value} {C : Int → Int → Prop} {g : Int → Int → Int}
    (rule : ∀ (i j : Int) (t u : Tok) (s : Shared) (Q : Value → Shared → Prop) (E : Value → Shared → Prop), C i j → Q (.int (g i j) s.toks) { s with toks := s.toks + 1 } → wpAny (model X.prog X.w) X.A (f (.int i t) (.int j u)) Q E s) :
    OpR X f (rI C fun i j => .int (g i j)) := by
  intro pins s σ H x y v u Q I rx ry h
  obtain ⟨i, j, rfl, rfl, hc, q⟩ := h
  obtain ⟨t, rfl⟩ := rx
  obtain ⟨t', rfl⟩ := ry
  exact rule i j t t' s _ _ hc ⟨.int (g i j), H, I.tok _, ⟨_, rfl⟩, q⟩
theorem opI0 {f : Value → Value → Sem Value} {g : Int → Int → Int}
    (rule : ∀ (i j : Int) (t u : Tok) (s : Shared) (Q : Value → Shared → Prop) (E : Value → Shared → Prop), Q (.int (g i j) s.toks) { s with toks := s.toks + 1 } → wpAny (model X.prog X.w) X.A (f (.int i t) (.int j u)) Q E s) :
    OpR X f (rI0 fun i j => .int (g i j)) := by
  intro pins s σ H x y v u Q I rx ry h
  obtain ⟨i, j, rfl, rfl, q⟩ := h
  obtain ⟨t, rfl⟩ := rx
  obtain ⟨t', rfl⟩ := ry
  exact rule i j t t' s _ _ ⟨.int (g i j), H, I.tok _, ⟨_, rfl⟩, q⟩
theorem opB0 {f : Value → Value → Sem Value} {g : Int → Int → Bool}
    (rule : ∀ (i j : Int) (t u : Tok) (s : Shared) (Q : Value → Shared → Prop) (E : Value → Shared → Prop), Q (.bool (g i j)) s → wpAny (model X.prog X.w) X.A (f (.int i t) (.int j u)) Q E s) :
    OpR X f (rI0 fun i j => .bl (g i j)) := by
  intro pins s σ H x y v u Q I rx ry h
  obtain ⟨i, j, rfl, rfl, q⟩ := h
  obtain ⟨t, rfl⟩ := rx
  obtain ⟨t', rfl⟩ := ry
  exact rule i j t t' s _ _ ⟨.bl (g i j), H, I, rfl, q⟩

def CDiv (i j : Int) : Prop := 0 < j ∧ j < 1073741824
def CDivN (i j : Int) : Prop := j ≠ 0 ∧ j.natAbs < 1073741824
def CPow (i j : Int) : Prop := 0 ≤ j ∧ j ≤ 1000000 ∧ i.natAbs < 2 ^ 64
def CMul (i j : Int) : Prop := (-(2 ^ 64) < i ∧ i < 2 ^ 64) ∨ (-(2 ^ 64) < j ∧ j < 2 ^ 64)
theorem CMul.ok {i j : Int} (h : CMul i j) : IntMulOk i j := by
  rcases h with ⟨h1, h2⟩ | ⟨h1, h2⟩
  · exact .of_left (intBits_le_64 h1 h2)
  · exact .of_right (intBits_le_64 h1 h2)
theorem two_pow_nn (k : Nat) : (0 : Int) ≤ 2 ^ k := by
  rw [two_pow_cast]
  exact Int.natCast_nonneg _

theorem op_add : OpR X (binaryOp .Add) (rI0 fun i j => .int (i + j)) := opI0 fun _ _ _ _ _ _ _ q => add_int q
theorem op_sub : OpR X (binaryOp .Sub) (rI0 fun i j => .int (i - j)) := opI0 fun _ _ _ _ _ _ _ q => sub_int q
theorem op_mul : OpR X (binaryOp .Mult) (rI CMul fun i j => .int (i * j)) := opI fun _ _ _ _ _ _ _ hc q => mul_int q hc.ok
/-- // by a positive divisor -/
theorem op_fdiv : OpR X (binaryOp .FloorDiv) (rI CDiv fun i j => .int (i / j)) := opI fun i j _ _ _ _ _ hc q => by
  have h1 : (0 : Int) < j := hc.1
  have h2 : j < 1073741824 := hc.2
  exact floordiv_int (by omega) (by rw [Int.fdiv_eq_ediv_of_nonneg i (by omega)]; exact q) (.inl (PyProof.noPylong_small (by omega)))
theorem op_fdivN : OpR X (binaryOp .FloorDiv) (rI CDivN fun i j => .int (i.fdiv j)) := opI fun _ _ _ _ _ _ _ hc q => floordiv_int hc.1 q (.inl (PyProof.noPylong_small hc.2))
/-- % by a positive divisor of any size -/
theorem op_mod : OpR X (binaryOp .Mod) (rI (fun _ j => 0 < j) fun i j => .int (i % j)) := opI fun i j _ _ _ _ _ hc q => by
  have h1 : (0 : Int) < j := hc
  exact mod_int' (by omega) (by rw [Int.fmod_eq_emod_of_nonneg i (by omega)]; exact q)
theorem op_modN : OpR X (binaryOp .Mod) (rI (fun _ j => j ≠ 0) fun i j => .int (i.fmod j)) := opI fun _ _ _ _ _ _ _ hc q => mod_int' hc q
theorem op_pow : OpR X (binaryOp .Pow) (rI CPow fun i j => .int (i ^ j.toNat)) := opI fun _ _ _ _ _ _ _ hc q => pow_int_small hc.1 hc.2.1 hc.2.2 q
theorem op_shl : OpR X (binaryOp .LShift) (rI CPow fun i j => .int (i * 2 ^ j.toNat)) := opI fun _ _ _ _ _ _ _ hc q => lshift_int_small hc.1 hc.2.1 hc.2.2 q
theorem op_shr : OpR X (binaryOp .RShift) (rI (fun _ j => 0 ≤ j) fun i j => .int (i / 2 ^ j.toNat)) := opI fun i j _ _ _ _ _ hc q =>
  rshift_int hc (by rw [Int.fdiv_eq_ediv_of_nonneg i (two_pow_nn _)]; exact q)
theorem op_and : OpR X (binaryOp .BitAnd) (rI0 fun i j => .int (Builtin.bitAnd i j)) := opI0 fun _ _ _ _ _ _ _ q => and_int q
theorem op_or : OpR X (binaryOp .BitOr) (rI0 fun i j => .int (Builtin.bitOr i j)) := opI0 fun _ _ _ _ _ _ _ q => or_int q
theorem op_xor : OpR X (binaryOp .BitXor) (rI0 fun i j => .int (Builtin.bitXor i j)) := opI0 fun _ _ _ _ _ _ _ q => xor_int q

theorem iop_add : OpR X (inplaceOp .Add) (rI0 fun i j => .int (i + j)) := opI0 fun _ _ _ _ _ _ _ q => iadd_int q
theorem iop_sub : OpR X (inplaceOp .Sub) (rI0 fun i j => .int (i - j)) := opI0 fun _ _ _ _ _ _ _ q => isub_int q
theorem iop_mul : OpR X (inplaceOp .Mult) (rI CMul fun i j => .int (i * j)) := opI fun _ _ _ _ _ _ _ hc q => imul_int q hc.ok
theorem iop_fdiv : OpR X (inplaceOp .FloorDiv) (rI CDiv fun i j => .int (i / j)) := opI fun i j _ _ _ _ _ hc q => by
  have h1 : (0 : Int) < j := hc.1
  have h2 : j < 1073741824 := hc.2
  exact ifloordiv_int (by omega) (by rw [Int.fdiv_eq_ediv_of_nonneg i (by omega)]; exact q) (.inl (PyProof.noPylong_small (by omega)))
theorem iop_mod : OpR X (inplaceOp .Mod) (rI (fun _ j => 0 < j) fun i j => .int (i % j)) := opI fun i j _ _ _ _ _ hc q => by
  have h1 : (0 : Int) < j := hc
  exact imod_int (by omega) (by rw [Int.fmod_eq_emod_of_nonneg i (by omega)]; exact q)
theorem iop_shl : OpR X (inplaceOp .LShift) (rI CPow fun i j => .int (i * 2 ^ j.toNat)) := opI fun _ _ _ _ _ _ _ hc q => ilshift_int_small hc.1 hc.2.1 hc.2.2 q
theorem iop_shr : OpR X (inplaceOp .RShift) (rI (fun _ j => 0 ≤ j) fun i j => .int (i / 2 ^ j.toNat)) := opI fun i j _ _ _ _ _ hc q =>
  irshift_int hc (by rw [Int.fdiv_eq_ediv_of_nonneg i (two_pow_nn _)]; exact q)
theorem iop_and : OpR X (inplaceOp .BitAnd) (rI0 fun i j => .int (Builtin.bitAnd i j)) := opI0 fun _ _ _ _ _ _ _ q => iand_int q
theorem iop_or : OpR X (inplaceOp .BitOr) (rI0 fun i j => .int (Builtin.bitOr i j)) := opI0 fun _ _ _ _ _ _ _ q => ior_int q
theorem iop_xor : OpR X (inplaceOp .BitXor) (rI0 fun i j => .int (Builtin.bitXor i j)) := opI0 fun _ _ _ _ _ _ _ q => ixor_int q

theorem unI {f : Value → Sem Value} {g : Int → Int}
    (rule : ∀ (i : Int) (t : Tok) (s : Shared) (Q : Value → Shared → Prop) (E : Value → Shared → Prop), Q (.int (g i) s.toks) { s with toks := s.toks + 1 } → wpAny (model X.prog X.w) X.A (f (.int i t)) Q E s) :
    UnR X f (rU fun i => .int (g i)) := by
  intro pins s σ H x v Q I rx h
  obtain ⟨i, rfl, q⟩ := h
  obtain ⟨t, rfl⟩ := rx
  exact rule i t s _ _ ⟨.int (g i), H, I.tok _, ⟨_, rfl⟩, q⟩
theorem un_neg : UnR X (unaryOp .USub) (rU fun i => .int (-i)) := unI fun _ _ _ _ _ q => neg_int q
theorem un_inv : UnR X (unaryOp .Invert) (rU fun i => .int (Builtin.bitNot i)) := unI fun _ _ _ _ _ q => invert_int q

/-! ### bools among ints: n += (a < b) -/
theorem op_add_ib : OpR X (binaryOp .Add) (fun x y H Q => ∃ i k, x = .int i ∧ y = .bl k ∧ Q (.int (i + b2i k)) H) := by
  intro pins s σ H x y v u Q I rx ry h
  obtain ⟨i, k, rfl, rfl, q⟩ := h
  obtain ⟨t, rfl⟩ := rx
  cases ry
  exact add_int_bool ⟨.int (i + b2i k), H, I.tok _, ⟨_, rfl⟩, q⟩
end

/-! ### comparisons -/
/-- the scalars that == tells apart as data does -/
def scal : V → V → Bool
  | .non, .non => true | .non, .int _ => true | .int _, .non => true | .non, .bl _ => true | .bl _, .non => true | .non, .str _ => true | .str _, .non => true
  | .int _, .int _ => true | .bl _, .bl _ => true | .str _, .str _ => true | .byt _, .byt _ => true
  | .int _, .str _ => true | .str _, .int _ => true | .bl _, .str _ => true | .str _, .bl _ => true
  | _, _ => false
def rEq : R2 := fun x y H Q => scal x y = true ∧ Q (.bl (decide (x = y))) H
def rNe : R2 := fun x y H Q => scal x y = true ∧ Q (.bl (!decide (x = y))) H

theorem dec_int {i j : Int} : decide (V.int i = V.int j) = (i == j) := by
  rw [Bool.eq_iff_iff]
  simp
theorem dec_bl {i j : Bool} : decide (V.bl i = V.bl j) = (i == j) := by
  rw [Bool.eq_iff_iff]
  simp
theorem dec_str {i j : Str} : decide (V.str i = V.str j) = (i == j) := by
  rw [Bool.eq_iff_iff]
  simp
theorem dec_byt {i j : Array UInt8} : decide (V.byt i = V.byt j) = (i.toList == j.toList) := by
  rw [Bool.eq_iff_iff]
  cases i
  cases j
  simp

section
variable {X : Cx} {a b c : Expr} {ta tb tc : TE} {pos : Pos}
theorem fin_bl {pins : List (Addr × Obj)} {σ : St} {H : Hp} {s : Shared} {Q : VK} {k k' : Bool} (I : Inv X pins σ H s) (q : Q (.bl k) H) (e : k = k') : EP X pins σ Q (.bool k') s := by
  subst e
  exact ⟨.bl k, H, I, rfl, q⟩
theorem op_eq : OpR X (compareOp .Eq) rEq := by
  intro pins s σ H x y v u Q I rx ry h
  obtain ⟨hs, q⟩ := h
  cases x with
  | non =>
    cases rx
    cases y with
    | non => cases ry; exact PySem.EqNone.eq_none_none (fin_bl I q (by simp))
    | bl j => cases ry; exact PySem.EqNone.eq_none_bool (fin_bl I q (by simp))
    | int j => obtain ⟨t', rfl⟩ := ry; exact PySem.EqNone.eq_none_int (fin_bl I q (by simp))
    | str j => obtain ⟨t', rfl⟩ := ry; exact PySem.EqNone.eq_none_str (fin_bl I q (by simp))
    | _ => exact absurd (show false = true from hs) Bool.false_ne_true
  | bl i =>
    cases rx
    cases y with
    | non => cases ry; exact PySem.EqNone.eq_bool_none (fin_bl I q (by simp))
    | bl j => cases ry; exact eq_bool (fin_bl I q dec_bl)
    | str j => obtain ⟨t', rfl⟩ := ry; exact PySem.EqMixed.eq_bool_str (fin_bl I q (by simp))
    | _ => exact absurd (show false = true from hs) Bool.false_ne_true
  | int i =>
    obtain ⟨t, rfl⟩ := rx
    cases y with
    | non => cases ry; exact PySem.EqNone.eq_int_none (fin_bl I q (by simp))
    | int j => obtain ⟨t', rfl⟩ := ry; exact eq_int (fin_bl I q dec_int)
    | str j => obtain ⟨t', rfl⟩ := ry; exact PySem.EqMixed.eq_int_str (fin_bl I q (by simp))
    | _ => exact absurd (show false = true from hs) Bool.false_ne_true
  | str i =>
    obtain ⟨t, rfl⟩ := rx
    cases y with
    | non => cases ry; exact PySem.EqNone.eq_str_none (fin_bl I q (by simp))
    | bl j => cases ry; exact PySem.EqMixed.eq_str_bool (fin_bl I q (by simp))
    | int j => obtain ⟨t', rfl⟩ := ry; exact PySem.EqMixed.eq_str_int (fin_bl I q (by simp))
    | str j => obtain ⟨t', rfl⟩ := ry; exact eq_str (fin_bl I q dec_str)
    | _ => exact absurd (show false = true from hs) Bool.false_ne_true
  | byt i =>
    obtain ⟨t, rfl⟩ := rx
    cases y with
    | byt j => obtain ⟨t', rfl⟩ := ry; exact PySem.W.eq_bytes (fin_bl I q dec_byt)
    | _ => exact absurd (show false = true from hs) Bool.false_ne_true
  | _ => cases y <;> exact absurd (show false = true from hs) Bool.false_ne_true
theorem op_ne : OpR X (compareOp .NotEq) rNe := by
  intro pins s σ H x y v u Q I rx ry h
  obtain ⟨hs, q⟩ := h
  cases x with
  | non =>
    cases rx
    cases y with
    | non => cases ry; exact PySem.EqNone.ne_none_none (fin_bl I q (by simp))
    | bl j => cases ry; exact PySem.EqNone.ne_none_bool (fin_bl I q (by simp))
    | int j => obtain ⟨t', rfl⟩ := ry; exact PySem.EqNone.ne_none_int (fin_bl I q (by simp))
    | str j => obtain ⟨t', rfl⟩ := ry; exact PySem.EqNone.ne_none_str (fin_bl I q (by simp))
    | _ => exact absurd (show false = true from hs) Bool.false_ne_true
  | bl i =>
    cases rx
    cases y with
    | non => cases ry; exact PySem.EqNone.ne_bool_none (fin_bl I q (by simp))
    | bl j => cases ry; exact ne_bool (fin_bl I q (congrArg not dec_bl))
    | str j => obtain ⟨t', rfl⟩ := ry; exact PySem.EqMixed.ne_bool_str (fin_bl I q (by simp))
    | _ => exact absurd (show false = true from hs) Bool.false_ne_true
  | int i =>
    obtain ⟨t, rfl⟩ := rx
    cases y with
    | non => cases ry; exact PySem.EqNone.ne_int_none (fin_bl I q (by simp))
    | int j => obtain ⟨t', rfl⟩ := ry; exact ne_int (fin_bl I q (congrArg not dec_int))
    | str j => obtain ⟨t', rfl⟩ := ry; exact PySem.EqMixed.ne_int_str (fin_bl I q (by simp))
    | _ => exact absurd (show false = true from hs) Bool.false_ne_true
  | str i =>
    obtain ⟨t, rfl⟩ := rx
    cases y with
    | non => cases ry; exact PySem.EqNone.ne_str_none (fin_bl I q (by simp))
    | bl j => cases ry; exact PySem.EqMixed.ne_str_bool (fin_bl I q (by simp))
    | int j => obtain ⟨t', rfl⟩ := ry; exact PySem.EqMixed.ne_str_int (fin_bl I q (by simp))
    | str j => obtain ⟨t', rfl⟩ := ry; exact ne_str (fin_bl I q (congrArg not dec_str))
    | _ => exact absurd (show false = true from hs) Bool.false_ne_true
  | byt i =>
    obtain ⟨t, rfl⟩ := rx
    cases y with
    | byt j => obtain ⟨t', rfl⟩ := ry; exact PySem.W.ne_bytes (fin_bl I q (congrArg not dec_byt))
    | _ => exact absurd (show false = true from hs) Bool.false_ne_true
  | _ => cases y <;> exact absurd (show false = true from hs) Bool.false_ne_true

theorem op_lt : OpR X (compareOp .Lt) (rI0 fun i j => .bl (decide (i < j))) := opB0 fun _ _ _ _ _ _ _ q => lt_int q
theorem op_le : OpR X (compareOp .LtE) (rI0 fun i j => .bl (decide (i ≤ j))) := opB0 fun _ _ _ _ _ _ _ q => le_int q
theorem op_gt : OpR X (compareOp .Gt) (rI0 fun i j => .bl (decide (j < i))) := opB0 fun _ _ _ _ _ _ _ q => gt_int q
theorem op_ge : OpR X (compareOp .GtE) (rI0 fun i j => .bl (decide (j ≤ i))) := opB0 fun _ _ _ _ _ _ _ q => ge_int q
theorem op_lt_str : OpR X (compareOp .Lt) (fun x y H Q => ∃ i j, x = .str i ∧ y = .str j ∧ Q (.bl (decide (i.cps.toList < j.cps.toList))) H) := by
  intro pins s σ H x y v u Q I rx ry h
  obtain ⟨i, j, rfl, rfl, q⟩ := h
  obtain ⟨t, rfl⟩ := rx
  obtain ⟨t', rfl⟩ := ry
  exact lt_str (fin_bl I q rfl)
/-- the one string within the other -/
theorem op_in_str : OpR X (compareOp .In) (fun x y H Q => ∃ i j, x = .str i ∧ y = .str j ∧ Q (.bl (!(Builtin.Str.occurrences j i 0 j.length 1).isEmpty)) H) := by
  intro pins s σ H x y v u Q I rx ry h
  obtain ⟨i, j, rfl, rfl, q⟩ := h
  obtain ⟨t, rfl⟩ := rx
  obtain ⟨t', rfl⟩ := ry
  exact in_str (fin_bl I q rfl)

/-- is None, is not None: the right side a value none -/
theorem op_isN : OpR X (compareOp .Is) (fun x y H Q => y = .non ∧ Q (.bl (decide (x = .non))) H) := by
  intro pins s σ H x y v u Q I rx ry h
  obtain ⟨rfl, q⟩ := h
  cases ry
  refine is_none_gen (fin_bl I q ?_)
  cases x <;> first
    | (cases rx; rfl)
    | (obtain ⟨t, rfl⟩ := rx; rfl)
theorem op_notN : OpR X (compareOp .IsNot) (fun x y H Q => y = .non ∧ Q (.bl (!decide (x = .non))) H) := by
  intro pins s σ H x y v u Q I rx ry h
  obtain ⟨rfl, q⟩ := h
  cases ry
  refine isnot_none_gen (fin_bl I q ?_)
  cases x <;> first
    | (cases rx; rfl)
    | (obtain ⟨t, rfl⟩ := rx; rfl)

theorem op_notin_str : OpR X (compareOp .NotIn) (fun x y H Q => ∃ i j, x = .str i ∧ y = .str j ∧ Q (.bl (!(!(Builtin.Str.occurrences j i 0 j.length 1).isEmpty))) H) := by
  intro pins s σ H x y v u Q I rx ry h
  obtain ⟨i, j, rfl, rfl, q⟩ := h
  obtain ⟨t, rfl⟩ := rx
  obtain ⟨t', rfl⟩ := ry
  exact notIn_str (fin_bl I q rfl)
/-- is, is not of two objects that are tracked lists or instances -/
def isObj : HO → Bool
  | .lst _ => true
  | .ins _ _ _ => true
  | _ => false
theorem obj_there {pins : List (Addr × Obj)} {s : Shared} {σ : St} {H : Hp} {a : Addr} {o : HO} (I : Inv X pins σ H s) (h : H a = some o) (p : isObj o = true) : ∃ ob, s.heap.get? a = some ob ∧ ob.cls ≠ .type "tuple" := by
  cases o with
  | lst xs =>
    obtain ⟨_, its, n, _, e⟩ : xs.length ≤ sizeLine ∧ ∃ (its : List Value) (n : Nat), Vals xs its ∧ s.heap.get? a = some { cls := .type "list", data := .seq its.toArray n } := I.hok a _ h
    exact ⟨_, e, (by show Value.type "list" ≠ .type "tuple"; decide +kernel)⟩
  | ins C dx fs =>
    have x := I.hok a _ h
    obtain ⟨_, _, _, e, _⟩ := x
    exact ⟨_, e, (by show Value.ref C ≠ .type "tuple"; exact fun z => by cases z)⟩
  | _ => exact absurd (show false = true from p) Bool.false_ne_true
theorem op_is_ref : OpR X (compareOp .Is) (fun x y H Q => ∃ a b oa ob, x = .ref a ∧ y = .ref b ∧ H a = some oa ∧ isObj oa = true ∧ H b = some ob ∧ isObj ob = true ∧ Q (.bl (decide (a = b))) H) := by
  intro pins s σ H x y v u Q I rx ry h
  obtain ⟨a, b, oa, ob, rfl, rfl, ha, pa, hb, pb, q⟩ := h
  cases rx
  cases ry
  obtain ⟨o1, e1, n1⟩ := obj_there I ha pa
  obtain ⟨o2, e2, _⟩ := obj_there I hb pb
  by_cases z : a = b
  · subst z
    exact wpAny_is_ref_self (fin_bl I q (by simp))
  · exact wpAny_is_ref_other z e1 e2 n1 (fin_bl I q (by simp [z]))
theorem op_isnot_ref : OpR X (compareOp .IsNot) (fun x y H Q => ∃ a b oa ob, x = .ref a ∧ y = .ref b ∧ H a = some oa ∧ isObj oa = true ∧ H b = some ob ∧ isObj ob = true ∧ Q (.bl (!decide (a = b))) H) := by
  intro pins s σ H x y v u Q I rx ry h
  obtain ⟨a, b, oa, ob, rfl, rfl, ha, pa, hb, pb, q⟩ := h
  cases rx
  cases ry
  obtain ⟨o1, e1, n1⟩ := obj_there I ha pa
  obtain ⟨o2, e2, _⟩ := obj_there I hb pb
  by_cases z : a = b
  · subst z
    exact wpAny_isNot_ref_self (fin_bl I q (by simp))
  · exact wpAny_isNot_ref_other z e1 e2 n1 (fin_bl I q (by simp [z]))

/-- two rules for one operation: by cases -/
theorem OpR.or {f : Value → Value → Sem Value} {r r' : R2} (h : OpR X f r) (h' : OpR X f r') : OpR X f (fun x y H Q => r x y H Q ∨ r' x y H Q) := by
  intro pins s σ H x y v u Q I rx ry q
  rcases q with q | q
  · exact h pins s σ H x y v u Q I rx ry q
  · exact h' pins s σ H x y v u Q I rx ry q

theorem nomark (b : Expr) {op : CmpOp} (h : op ≠ .In := by decide) (h2 : op ≠ .NotIn := by decide) : behindInMarks op b = false := by
  have e1 : (op == CmpOp.In) = false := by cases op <;> first | rfl | exact absurd rfl h
  have e2 : (op == CmpOp.NotIn) = false := by cases op <;> first | rfl | exact absurd rfl h2
  cases b <;> simp [behindInMarks, e1, e2]
/-- a comparison as a value; hm: nomark b, or (for in, not in) by with_unfolding_all rfl -/
theorem pe_cmpR {op : CmpOp} {r : R2} (ho : OpR X (compareOp op) r) (ha : PE X a ta) (hb : PE X b tb) (hm : behindInMarks op b = false) : PE X (.Compare a [op] [b] pos) (tOp r ta tb) := by
  intro pins s σ H Q I h
  exact wpAny_Compare1 (binT ha hb I h fun v u s2 x y H2 I2 rx ry q => ho pins s2 σ H2 x y v u Q I2 rx ry q) hm
/-- a reading of a value as a test -/
def tTest (t : TE) : TT := fun σ H Q => t σ H fun x H' => ∃ k, x = .bl k ∧ Q k H'
theorem pt_cmpR {op : CmpOp} {r : R2} (ho : OpR X (compareOp op) r) (ha : PE X a ta) (hb : PE X b tb) (hm : behindInMarks op b = false) : PT X (.Compare a [op] [b] pos) (tTest (tOp r ta tb)) := by
  intro pins s σ H Q I h
  refine wpAny_isTrue_Compare1 (thn (ha pins s σ H _ I h) fun v s1 ⟨x, H1, I1, r1, q1⟩ => thn (hb pins s1 σ H1 _ I1 q1) fun u s2 ⟨y, H2, I2, r2, q2⟩ =>
    thn (ho pins s2 σ H2 x y v u _ I2 r1 r2 q2) fun c s3 ⟨z, H3, I3, r3, k, e, q3⟩ => ?_) hm
  subst e
  cases r3
  exact wpAny_truthy_bool ⟨H3, I3, q3⟩
/-- a op1 b op2 c -/
def tChain (r r' : R2) (ta tb tc : TE) : TE := fun σ H Q => ta σ H fun x H1 => tb σ H1 fun y H2 => r x y H2 fun z H3 => ∃ k, z = .bl k ∧
  (if k = true then tc σ H3 fun w' H4 => r' y w' H4 Q else Q (.bl false) H3)
theorem pe_chain {op op' : CmpOp} {r r' : R2} (ho : OpR X (compareOp op) r) (ho' : OpR X (compareOp op') r') (ha : PE X a ta) (hb : PE X b tb) (hc : PE X c tc)
    (hm : lastMarks [op, op'] [b, c] = false := by with_unfolding_all rfl) : PE X (.Compare a [op, op'] [b, c] pos) (tChain r r' ta tb tc) := by
  intro pins s σ H Q I h
  refine Compare_chain (thn (ha pins s σ H _ I h) fun v s1 ⟨x, H1, I1, r1, q1⟩ => chain_link (thn (hb pins s1 σ H1 _ I1 q1) fun u s2 ⟨y, H2, I2, r2, q2⟩ =>
    thn (ho pins s2 σ H2 x y v u _ I2 r1 r2 q2) fun d s3 ⟨z, H3, I3, r3, k, e, q3⟩ => ?_)) hm
  subst e
  cases r3
  refine wpAny_truthy_bool ?_
  cases k with
  | false => exact ite_ff ⟨.bl false, H3, I3, rfl, q3⟩
  | true => exact ite_tt (chain_last (thn (hc pins s3 σ H3 _ I3 q3) fun w' s4 ⟨z', H4, I4, r4, q4⟩ => ho' pins s4 σ H4 y z' u w' Q I4 r2 r4 q4))
theorem pt_chain {op op' : CmpOp} {r r' : R2} (ho : OpR X (compareOp op) r) (ho' : OpR X (compareOp op') r') (ha : PE X a ta) (hb : PE X b tb) (hc : PE X c tc)
    (hm : lastMarks [op, op'] [b, c] = false := by with_unfolding_all rfl) : PT X (.Compare a [op, op'] [b, c] pos) (tTest (tChain r r' ta tb tc)) := by
  intro pins s σ H Q I h
  refine isTrue_chain (thn (ha pins s σ H _ I h) fun v s1 ⟨x, H1, I1, r1, q1⟩ => test_link (thn (hb pins s1 σ H1 _ I1 q1) fun u s2 ⟨y, H2, I2, r2, q2⟩ =>
    thn (ho pins s2 σ H2 x y v u _ I2 r1 r2 q2) fun d s3 ⟨z, H3, I3, r3, k, e, q3⟩ => ?_)) hm
  subst e
  cases r3
  refine wpAny_truthy_bool ?_
  cases k with
  | false =>
    obtain ⟨k', e', q'⟩ := q3
    cases e'
    exact ite_ff ⟨H3, I3, q'⟩
  | true =>
    refine ite_tt (test_last (thn (hc pins s3 σ H3 _ I3 q3) fun w' s4 ⟨z', H4, I4, r4, q4⟩ => thn (ho' pins s4 σ H4 y z' u w' _ I4 r2 r4 q4) fun d' s5 ⟨z2, H5, I5, r5, k2, e2, q5⟩ => ?_))
    subst e2
    cases r5
    exact wpAny_truthy_bool ⟨H5, I5, q5⟩

/-! ### truth -/
/-- a value's truth by the abstract heap -/
def TruV (K : PySem.W.Frag) (x : V) (H : Hp) (k : Bool) : Prop :=
  match x with
  | .non => k = false
  | .bl b => k = b
  | .int i => k = (i != 0)
  | .str y => y.length ≤ sizeLine ∧ k = ((y.length : Int) != 0)
  | .byt y => y.size ≤ sizeLine ∧ k = ((y.size : Int) != 0)
  | .ref p => (∃ xs, SqL K H p xs ∧ k = !xs.isEmpty) ∨ (∃ xs, SqT K H p xs ∧ k = !xs.isEmpty) ∨ ∃ kvs, H p = some (.dK kvs) ∧ k = !kvs.isEmpty
  | _ => False
theorem isEmpty_kv {κ : Type} {kvs : List (κ × V)} {vs : List (κ × Value)} (r : KV kvs vs) : (!vs.isEmpty) = !kvs.isEmpty := by
  cases r <;> rfl
theorem isEmpty_of {xs : List V} {its : List Value} (r : Vals xs its) : (!its.toArray.isEmpty) = !xs.isEmpty := by
  cases r <;> simp
theorem line63 : (sizeLine : Nat) < 2 ^ 63 := by rw [sizeLine_eq]; decide
theorem tru_ok : TruR X (fun x H Q => ∃ k, TruV X.K x H k ∧ Q k H) := by
  intro pins s σ H x v Q I rx h
  obtain ⟨k, e, q⟩ := h
  have hl := line63
  have hs : sizeLine = 16777216 := sizeLine_eq
  cases x with
  | non =>
    cases rx
    have e' : k = false := e
    subst e'
    exact truthy_none ⟨H, I, q⟩
  | bl b =>
    cases rx
    have e' : k = b := e
    subst e'
    exact wpAny_truthy_bool ⟨H, I, q⟩
  | int i =>
    obtain ⟨t, rfl⟩ := rx
    have e' : k = (i != 0) := e
    subst e'
    exact PySem.P.truthy_int ⟨H, I, q⟩
  | str y =>
    obtain ⟨t, rfl⟩ := rx
    obtain ⟨hy, e'⟩ : y.length ≤ sizeLine ∧ k = ((y.length : Int) != 0) := e
    subst e'
    exact PySem.P.truthy_str (by omega) ⟨H, I.tok _, q⟩
  | byt y =>
    obtain ⟨t, rfl⟩ := rx
    obtain ⟨hy, e'⟩ : y.size ≤ sizeLine ∧ k = ((y.size : Int) != 0) := e
    subst e'
    exact PySem.W.truthy_bytes (by omega) ⟨H, I.tok _, q⟩
  | ref p =>
    cases rx
    have e' : (∃ xs, SqL X.K H p xs ∧ k = !xs.isEmpty) ∨ (∃ xs, SqT X.K H p xs ∧ k = !xs.isEmpty) ∨ ∃ kvs, H p = some (.dK kvs) ∧ k = !kvs.isEmpty := e
    rcases e' with ⟨xs, hx, e'⟩ | ⟨xs, hx, e'⟩ | ⟨kvs, hx, e'⟩
    · subst e'
      obtain ⟨its, r, pl, hz⟩ := I.list hx
      have hlen := r.length
      exact wpAny_truthy_list pl.isList (by simp only [List.size_toArray]; omega) ⟨H, I.tok _, by rw [isEmpty_of r]; exact q⟩
    · subst e'
      obtain ⟨its, r, pl, hz⟩ := I.tuple hx
      have hlen := r.length
      exact truthy_tuple pl (by simp only [List.size_toArray]; omega) ⟨H, I.tok _, by rw [isEmpty_of r]; exact q⟩
    · subst e'
      obtain ⟨hz, hS, vs, r, m⟩ : kvs.length ≤ sizeLine ∧ (p == sysModules) = false ∧ ∃ vs, KV kvs vs ∧ s.heap.DictOf (mixKind X.prog X.w) p vs := I.hok p _ hx
      have hlen : kvs.length = vs.length := Paired.length r
      exact wpAny_truthy_dict hS m (by omega) ⟨H, I.tok _, by rw [isEmpty_kv r]; exact q⟩
  | _ => exact (show False from e).elim
/-- any expression whose test is its value's truth (a name, a call, a subscript, a field ..: he by fun _ => rfl) -/
theorem pt_truth (ha : PE X a ta) (he : ∀ whole, isTrue a X.env whole = (do let v ← whole; standAt a.pos; holding [v] (truthy v))) :
    PT X a (fun σ H Q => ta σ H fun x H' => ∃ k, TruV X.K x H' k ∧ Q k H') := by
  intro pins s σ H Q I h
  exact isTrue_plain (thn (ha pins s σ H _ I h) fun v s1 ⟨x, H1, I1, r1, q1⟩ => tru_ok pins s1 σ H1 x v Q I1 r1 q1) (he _)

/-! ### strs and bytes -/
theorem pe_byt {x : List UInt8} {k : Nat} : PE X (.Constant (.bytes x) k pos) (fun _ H Q => Q (.byt x.toArray) H) := fun _ _ _ H _ I h => PySem.W.Constant_bytes ⟨.byt x.toArray, H, I.tok _, ⟨_, rfl⟩, h⟩
theorem op_add_str : OpR X (binaryOp .Add) (fun x y H Q => ∃ i j, x = .str i ∧ y = .str j ∧ i.length + j.length ≤ sizeLine ∧ Q (.str (i ++ j)) H) := by
  intro pins s σ H x y v u Q I rx ry h
  obtain ⟨i, j, rfl, rfl, hz, q⟩ := h
  obtain ⟨t, rfl⟩ := rx
  obtain ⟨t', rfl⟩ := ry
  exact add_str (fun t' tk => ⟨.str (i ++ j), H, I.tok _, ⟨_, rfl⟩, q⟩) hz
theorem iop_add_str : OpR X (inplaceOp .Add) (fun x y H Q => ∃ i j, x = .str i ∧ y = .str j ∧ i.length + j.length ≤ sizeLine ∧ Q (.str (i ++ j)) H) := by
  intro pins s σ H x y v u Q I rx ry h
  obtain ⟨i, j, rfl, rfl, hz, q⟩ := h
  obtain ⟨t, rfl⟩ := rx
  obtain ⟨t', rfl⟩ := ry
  exact iadd_str (fun t' tk => ⟨.str (i ++ j), H, I.tok _, ⟨_, rfl⟩, q⟩) hz
theorem op_add_byt : OpR X (binaryOp .Add) (fun x y H Q => ∃ i j, x = .byt i ∧ y = .byt j ∧ i.size + j.size ≤ 16777216 ∧ Q (.byt (i ++ j)) H) := by
  intro pins s σ H x y v u Q I rx ry h
  obtain ⟨i, j, rfl, rfl, hz, q⟩ := h
  obtain ⟨t, rfl⟩ := rx
  obtain ⟨t', rfl⟩ := ry
  exact PySem.W.KBy.add_bytes hz (fun t' tk => ⟨.byt (i ++ j), H, I.tok _, ⟨_, rfl⟩, q⟩)

def PlainIxT (b : Expr) : Prop := ∀ o i, subscripted b false o i = operate [o, i] (getItem o i)
/-- s[i], 0 ≤ i < len -/
theorem pe_item_str (ha : PE X a ta) (hb : PE X b tb) (hs : PlainIxT b) :
    PE X (.Subscript a b pos) (tOp (fun x y H Q => ∃ z i c, x = .str z ∧ y = .int i ∧ 0 ≤ i ∧ i < 2 ^ 63 ∧ i < z.length ∧ z.cps[i.toNat]? = some c ∧ Q (.str ⟨#[c]⟩) H) ta tb) := by
  intro pins s σ H Q I h
  refine Subscript_ (binT ha hb I h fun v u s2 x y H2 I2 rx ry q => ?_)
  obtain ⟨z, i, c, rfl, rfl, h0, h63, h1, hc, q⟩ := q
  obtain ⟨t, rfl⟩ := rx
  obtain ⟨t', rfl⟩ := ry
  have e : seqIndex? i z.length = some i.toNat := PySem.StrLaws.seqIndex_nonneg h0 h1
  exact tail_any (typeIs_str s2 z t) slot_str_getitem.lookup (getItem_str (c := c) (by
    have e1 : decide (i < -(2 ^ 63 : Int)) = false := decide_eq_false (by omega)
    have e2 : decide (i ≥ 2 ^ 63) = false := decide_eq_false (by omega)
    rw [e1, e2] <;> rfl) (by rw [e]; exact hc) ⟨.str ⟨#[c]⟩, H2, I2.tok _, ⟨_, rfl⟩, q⟩) (hs _ _)
/-- b[i], 0 ≤ i < len -/
theorem pe_item_byt (ha : PE X a ta) (hb : PE X b tb) (hs : PlainIxT b) :
    PE X (.Subscript a b pos) (tOp (fun x y H Q => ∃ (z : List UInt8) (i : Int), x = .byt z.toArray ∧ y = .int i ∧ z.length ≤ sizeLine ∧ 0 ≤ i ∧ i < z.length ∧ Q (.int ((z.getD i.toNat 0).toNat : Nat)) H) ta tb) := by
  intro pins s σ H Q I h
  refine Subscript_ (binT ha hb I h fun v u s2 x y H2 I2 rx ry q => ?_)
  obtain ⟨z, i, rfl, rfl, hz, h0, h1, q⟩ := q
  obtain ⟨t, rfl⟩ := rx
  obtain ⟨t', rfl⟩ := ry
  have hl : sizeLine = 16777216 := sizeLine_eq
  exact tail_any (PySem.W.typeIs_bytes s2 z.toArray t) PySem.W.FB.slot_bytes_getitem.lookup (PySem.W.getItem_bytes (by omega) h0 h1 ⟨.int ((z.getD i.toNat 0).toNat : Nat), H2, I2.tok _, ⟨_, rfl⟩, q⟩) (hs _ _)

/-! ### scalar builtins, by CallR -/
theorem vals1 {x : V} {us : List Value} (r : Vals [x] us) : ∃ u, us = [u] ∧ RelV x u := by
  cases r with
  | cons r1 r2 => cases r2; exact ⟨_, rfl, r1⟩
theorem vals2 {x y : V} {us : List Value} (r : Vals [x, y] us) : ∃ u w', us = [u, w'] ∧ RelV x u ∧ RelV y w' := by
  cases r with
  | cons r1 r2 =>
    cases r2 with
    | cons r3 r4 => cases r4; exact ⟨_, _, rfl, r1, r3⟩
theorem call_abs : CallR X (.builtin "abs") (fun xs H Q => ∃ i, xs = [.int i] ∧ Q (.int (if i < 0 then -i else i)) H) := by
  intro pins s σ H xs us Q I r h
  obtain ⟨i, rfl, q⟩ := h
  obtain ⟨u, rfl, t, rfl⟩ := vals1 r
  exact call_abs_int fun u tk => ⟨.int (if i < 0 then -i else i), H, I.tok _, ⟨_, rfl⟩, q⟩
theorem call_max2 (hc : X.calm = true) : CallR X (.builtin "max") (fun xs H Q => ∃ i j, xs = [.int i, .int j] ∧ Q (.int (if j > i then j else i)) H) := by
  intro pins s σ H xs us Q I r h
  obtain ⟨i, j, rfl, q⟩ := h
  obtain ⟨u, w', rfl, ⟨t, rfl⟩, ⟨t', rfl⟩⟩ := vals2 r
  refine max_two_ints (I.ok.hd hc) fun h' tk k => ⟨_, H, I.kept k, ?_, q⟩
  by_cases hj : j > i
  · rw [if_pos hj, if_pos hj]; exact ⟨_, rfl⟩
  · rw [if_neg hj, if_neg hj]; exact ⟨_, rfl⟩
theorem call_min2 (hc : X.calm = true) : CallR X (.builtin "min") (fun xs H Q => ∃ i j, xs = [.int i, .int j] ∧ Q (.int (if j < i then j else i)) H) := by
  intro pins s σ H xs us Q I r h
  obtain ⟨i, j, rfl, q⟩ := h
  obtain ⟨u, w', rfl, ⟨t, rfl⟩, ⟨t', rfl⟩⟩ := vals2 r
  refine min_two_ints (I.ok.hd hc) fun h' tk k => ⟨_, H, I.kept k, ?_, q⟩
  by_cases hj : j < i
  · rw [if_pos hj, if_pos hj]; exact ⟨_, rfl⟩
  · rw [if_neg hj, if_neg hj]; exact ⟨_, rfl⟩
theorem call_int1 : CallR X (.type "int") (fun xs H Q => (∃ i, xs = [.int i] ∧ Q (.int i) H) ∨ ∃ k, xs = [.bl k] ∧ Q (.int (if k then 1 else 0)) H) := by
  intro pins s σ H xs us Q I r h
  rcases h with ⟨i, rfl, q⟩ | ⟨k, rfl, q⟩
  · obtain ⟨u, rfl, t, rfl⟩ := vals1 r
    exact call_int_int ⟨.int i, H, I, ⟨_, rfl⟩, q⟩
  · obtain ⟨u, rfl, r1⟩ := vals1 r
    cases r1
    exact call_int_bool ⟨.int (if k then 1 else 0), H, I.tok _, ⟨_, rfl⟩, q⟩
theorem call_bool1 : CallR X (.type "bool") (fun xs H Q => (∃ i, xs = [.int i] ∧ Q (.bl (i != 0)) H) ∨ ∃ k, xs = [.bl k] ∧ Q (.bl k) H) := by
  intro pins s σ H xs us Q I r h
  rcases h with ⟨i, rfl, q⟩ | ⟨k, rfl, q⟩
  · obtain ⟨u, rfl, t, rfl⟩ := vals1 r
    exact call_bool_int ⟨.bl (i != 0), H, I, rfl, q⟩
  · obtain ⟨u, rfl, r1⟩ := vals1 r
    cases r1
    exact call_bool_bool ⟨.bl k, H, I, rfl, q⟩
theorem call_str_int : CallR X (.type "str") (fun xs H Q => ∃ i, xs = [.int i] ∧ i.natAbs.log2 < 1920 ∧ Q (.str (toString i)) H) := by
  intro pins s σ H xs us Q I r h
  obtain ⟨i, rfl, hz, q⟩ := h
  obtain ⟨u, rfl, t, rfl⟩ := vals1 r
  exact PySem.P.str_of_int hz ⟨.str _, H, I.tok _, ⟨_, rfl⟩, q⟩
theorem call_ord : CallR X (.builtin "ord") (fun xs H Q => ∃ x, xs = [.str x] ∧ x.length = 1 ∧ Q (.int (x.cps.getD 0 0 : Nat)) H) := by
  intro pins s σ H xs us Q I r h
  obtain ⟨x, rfl, hz, q⟩ := h
  obtain ⟨u, rfl, t, rfl⟩ := vals1 r
  exact ord_of_one hz ⟨.int _, H, I.tok _, ⟨_, rfl⟩, q⟩
theorem call_chr : CallR X (.builtin "chr") (fun xs H Q => ∃ i, xs = [.int i] ∧ 0 ≤ i ∧ i ≤ 1114111 ∧ Q (.str ⟨#[i.toNat]⟩) H) := by
  intro pins s σ H xs us Q I r h
  obtain ⟨i, rfl, h0, h1, q⟩ := h
  obtain ⟨u, rfl, t, rfl⟩ := vals1 r
  exact chr_of_range h0 h1 ⟨.str _, H, I.tok _, ⟨_, rfl⟩, q⟩
/-- len of a str, a bytes, a list, a tuple -/
def LenV (K : PySem.W.Frag) (x : V) (H : Hp) (n : Nat) : Prop :=
  match x with
  | .str y => y.length ≤ sizeLine ∧ n = y.length
  | .byt y => y.size ≤ sizeLine ∧ n = y.size
  | .ref p => (∃ xs, SqL K H p xs ∧ n = xs.length) ∨ ∃ xs, SqT K H p xs ∧ n = xs.length
  | _ => False
theorem call_len : CallR X (.builtin "len") (fun xs H Q => ∃ x n, xs = [x] ∧ LenV X.K x H n ∧ Q (.int n) H) := by
  intro pins s σ H xs us Q I r h
  obtain ⟨x, n, rfl, e, q⟩ := h
  obtain ⟨u, rfl, rx⟩ := vals1 r
  have hl := line63
  have hs : sizeLine = 16777216 := sizeLine_eq
  cases x with
  | str y =>
    obtain ⟨t, rfl⟩ := rx
    obtain ⟨hy, e'⟩ : y.length ≤ sizeLine ∧ n = y.length := e
    subst e'
    exact len_str (by omega) ⟨.int _, H, I.tok _, ⟨_, rfl⟩, q⟩
  | byt y =>
    obtain ⟨t, rfl⟩ := rx
    obtain ⟨hy, e'⟩ : y.size ≤ sizeLine ∧ n = y.size := e
    subst e'
    exact PySem.W.len_bytes (by omega) ⟨.int _, H, I.tok _, ⟨_, rfl⟩, q⟩
  | ref p =>
    cases rx
    have e' : (∃ xs, SqL X.K H p xs ∧ n = xs.length) ∨ ∃ xs, SqT X.K H p xs ∧ n = xs.length := e
    rcases e' with ⟨xs, hx, e'⟩ | ⟨xs, hx, e'⟩
    · subst e'
      obtain ⟨its, r', pl, hz⟩ := I.list hx
      have hlen := r'.length
      exact Calls.call_len_list pl.isList (by simp only [List.size_toArray]; omega) ⟨.int xs.length, H, I.tok _, ⟨_, by simp only [List.size_toArray]; rw [hlen]⟩, q⟩
    · subst e'
      obtain ⟨its, r', pl, hz⟩ := I.tuple hx
      have hlen := r'.length
      exact len_tuple pl (by simp only [List.size_toArray]; omega) ⟨.int xs.length, H, I.tok _, ⟨_, by simp only [List.size_toArray]; rw [hlen]⟩, q⟩
  | _ => exact (show False from e).elim
/-- divmod: a new tuple -/
theorem call_divmod : CallR X (.builtin "divmod") (fun xs H Q => ∃ i j, xs = [.int i, .int j] ∧ CDiv i j ∧ ∀ p, H p = none → Q (.ref p) (upd H p (.tup [.int (i / j), .int (i % j)]))) := by
  intro pins s σ H xs us Q I r h
  obtain ⟨i, j, rfl, ⟨h1, h2⟩, q⟩ := h
  obtain ⟨u, w', rfl, ⟨t, rfl⟩, ⟨t', rfl⟩⟩ := vals2 r
  refine divmod_int (by omega) ?_ (.inl (PyProof.noPylong_small (by omega)))
  rw [Int.fdiv_eq_ediv_of_nonneg i (by omega), Int.fmod_eq_emod_of_nonneg i (by omega)]
  have hn : H s.heap.objs.size = none := I.hok.fresh (Nat.le_refl _)
  refine ⟨.ref s.heap.objs.size, _, ?_, rfl, q _ hn⟩
  refine I.laid (fun b o e => Heap.get?_push_of_some _ e) (Nat.le_refl _) ⟨by simp only [List.length_cons, List.length_nil]; rw [sizeLine_eq]; decide, [.int (i / j) s.toks, .int (i % j) (s.toks + 1)], .cons ⟨_, rfl⟩ (.cons ⟨_, rfl⟩ .nil), ?_⟩
  exact ⟨_, Heap.get?_push_size s.heap rfl, rfl, 0, rfl⟩
end
end L2

namespace L2
open PySem PySem.Spec PyProof.Rows

/-! ### an instance, its attributes a map -/
structure ObjM (h : Heap) (x dx C : Addr) (mA : Str → Option Value) : Prop where
  obj : h.get? x = some (PySem.W.instObj C dx)
  ns : h.Ns1 dx mA
  ne : dx ≠ x

theorem lookIn_ns {h : Heap} {dx : Addr} {mA : Str → Option Value} (n : h.Ns1 dx mA) : ∃ od, h.get? dx = some od ∧ ∀ name, PySem.W.lookIn name od = some (mA name) := by
  obtain ⟨o, es, ep, ho, hd, hk, _, hm⟩ := n
  refine ⟨o, ho, fun name => ?_⟩
  have e := hm name
  unfold nsFind findBy at e
  rw [← Array.find?_toList] at e
  unfold PySem.W.lookIn
  rw [hd]
  dsimp only
  split
  · rename_i y q
    rw [q] at e
    exact congrArg some e
  · rename_i q
    rw [q] at e
    have a : es.toList.any (·.refKey) = false := by
      rw [List.any_eq_false]
      intro y hy
      obtain ⟨z, t, hkey⟩ := hk y (Array.mem_toList_iff.mp hy)
      simp [DictEntry.refKey, hkey]
    have a' : ¬ es.toList.any (·.refKey) = true := by rw [a]; exact Bool.false_ne_true
    rw [if_neg a']
    exact congrArg some e

theorem ObjM.look {h : Heap} {x dx C : Addr} {mA : Str → Option Value} (I : ObjM h x dx C mA) : ∃ od, PySem.W.InstAt h x (PySem.W.instObj C dx) C (some od) ∧ ∀ name, PySem.W.lookIn name od = some (mA name) :=
  let ⟨od, ho, hl⟩ := lookIn_ns I.ns
  ⟨od, ⟨I.obj, rfl, rfl, ho⟩, hl⟩

section
variable {prog : Program} {w : World} {A : Around} {E : Value → Shared → Prop} {s : Shared} {K : PySem.W.Frag} {x dx C f : Addr} {mA : Str → Option Value} {name : Str} {v : Value}

theorem get_map {expr : Bool} {Q : Value → Shared → Prop} (X : K.In s.heap) (I : ObjM s.heap x dx C mA) (hg : PySem.W.plainGet K C name = true) (hh : PySem.W.hasDictIn K C = true)
    (ha : PySem.W.findIn K (.ref C) name = some none) (hv : mA name = some v) (hv' : PySem.W.handedIn v = true) (h : Q v { s with toks := s.toks + 1 }) :
    wpAny (model prog w) A (getAttr (.ref x) name expr) Q E s := by
  obtain ⟨od, J, hl⟩ := I.look
  exact PySem.W.get_value X J (PySem.W.plainGet_of hg).1 (PySem.W.findObj_own hh ha rfl (by rw [hl, hv])) hv' h

theorem get_const {expr : Bool} {a : Value} {Q : Value → Shared → Prop} (X : K.In s.heap) (I : ObjM s.heap x dx C mA) (hg : PySem.W.plainGet K C name = true) (hh : PySem.W.hasDictIn K C = true)
    (ha : PySem.W.findIn K (.ref C) name = some (some a)) (hn : PySem.W.specialIn K a "__get__" = some none) (hc : PySem.W.copiedNames.contains name = false) (hv : mA name = none) (hv' : PySem.W.handedIn a = true)
    (h : Q a { s with toks := s.toks + 1 }) : wpAny (model prog w) A (getAttr (.ref x) name expr) Q E s := by
  obtain ⟨od, J, hl⟩ := I.look
  exact PySem.W.get_value X J (PySem.W.plainGet_of hg).1 (PySem.W.findObj_cls hh ha hn hv' hc (by rw [hl, hv])) hv' h

theorem get_meth {pl : Sem Bool} {Q : Value × List Value → Shared → Prop} (X : K.In s.heap) (I : ObjM s.heap x dx C mA) (hg : PySem.W.plainGet K C name = true)
    (hf : PySem.W.findIn K (.ref C) name = some (some (.ref f))) (ht : PySem.W.isFn K (.ref f) = true) (hv : mA name = none) (h : Q (.ref f, [.ref x]) s) :
    wpAny (model prog w) A (getMethod (.ref x) name pl) Q E s := by
  obtain ⟨od, J, hl⟩ := I.look
  exact PySem.W.method_fn X J (PySem.W.plainGet_of hg).1 (PySem.W.plainGet_of hg).2 hf (beq_iff_eq.mp ht) (by show (PySem.W.lookIn name od).map (·.isSome) = some false; rw [hl, hv]; rfl) h

theorem set_map {ns : List Str} {Q : Unit → Shared → Prop} (X : K.In s.heap) (I : ObjM s.heap x dx C mA)
    (hs : PySem.W.findIn K (.ref C) "__setattr__" = some (some (.builtin "object.__setattr__"))) (hp : PySem.W.plainOver K C = true) (ht : PySem.W.takerIn K C name = some none) (hh : PySem.W.hasDictIn K C = true)
    (hw : PySem.Within mA ns) (hsz : ns.length ≤ sizeLine)
    (h : ∀ h', ObjM h' x dx C (fun y => if y = name then some v else mA y) → Heap.SameBut dx s.heap h' → Q () { s with heap := h', toks := s.toks + 2 }) :
    wpAny (model prog w) A (setAttr (.ref x) name v) Q E s := by
  obtain ⟨od, J, hl⟩ := I.look
  refine PySem.W.set_plain X J hs (PySem.W.osa_open (s := { s with toks := s.toks + 1 }) (r := none) X J hp ht fun b => ?_)
  obtain ⟨cd, hc, hd'⟩ := PySem.W.any_some hh
  have hx : s.heap.get? x = some ⟨.ref C, some dx, .plain, #[]⟩ := I.obj
  refine wpAny_bind (wpAny_pure (wpAny_bind (wpAny_bind (wpAny_loadPart hx (wpAny_bind (PySem.W.Looks.here (s := { s with toks := s.toks + 1 }) (PySem.W.looks_clsIn X hc) ?_))))))
  rw [hd']
  refine wpAny_pure (a := some dx) (wpAny_bind (wpAny_pure (wpAny_bind ?_)))
  refine wpAny_nsSet1 (s := { s with toks := s.toks + 1 }) I.ns fun h' hn2 hs2 => ?_
  obtain ⟨oD, esD, epD, hoD, hdD, hcD⟩ := hn2.count (PySem.Within.cons name v hw)
  refine wpAny_bind (wpAny_lookBehind hoD (by rw [hdD]; exact pastItsLine_dict (Nat.le_trans hcD (by rw [List.length_cons]; omega))) ?_)
  exact wpAny_pure (h _ ⟨(hs2.2 _ (Ne.symm I.ne)).trans I.obj, hn2, I.ne⟩ hs2)

/-- C(..): the dict at the heap's end, the instance behind it; then its __init__ -/
theorem make_map {R : Result → Shared → Prop} {vs : List Value} {kw : List (Str × Value)} (X : K.In s.heap) (hm : PySem.W.makesIn K C = true)
    (hi : PySem.W.findIn K (.ref C) "__init__" = some (some (.ref f))) (hf : PySem.W.typeIn K (.ref f) = some (.type "function"))
    (h : codeAny (model prog w) (A.under (.builtin "type.__call__" ⟨.ref C :: vs, kw⟩)) (.call (.ref f) ⟨.ref (s.heap.objs.size + 1) :: vs, kw⟩) (PySem.W.InitBack (s.heap.objs.size + 1) R)
      { s with heap := (s.heap.push PySem.W.emptyDict).push (PySem.W.instObj C s.heap.objs.size) }) :
    codeAny (model prog w) A (.call (.ref C) ⟨vs, kw⟩) R s := by
  obtain ⟨hh, g, d, t, os⟩ := s
  exact PySem.W.make_core (PySem.W.makes_of X hm) (PySem.W.looks_findIn X hi) (fun self => PySem.W.bind_fn X self hf) (.inl rfl) h
/-- C() where there is no __init__ but object's -/
theorem make_map0 {R : Result → Shared → Prop} (X : K.In s.heap) (hm : PySem.W.makesIn K C = true)
    (hi : PySem.W.findIn K (.ref C) "__init__" = some (some (.builtin "object.__init__")))
    (hb : ∀ self, PySem.W.Looks (model prog w) s.heap (bindSpecial (.builtin "object.__init__") self) (.builtin "object.__init__", [self]))
    (h : codeAny (model prog w) (A.under (.builtin "type.__call__" ⟨[.ref C], []⟩)) (.call (.builtin "object.__init__") ⟨[.ref (s.heap.objs.size + 1)], []⟩) (PySem.W.InitBack (s.heap.objs.size + 1) R)
      { s with heap := (s.heap.push PySem.W.emptyDict).push (PySem.W.instObj C s.heap.objs.size) }) :
    codeAny (model prog w) A (.call (.ref C) ⟨[], []⟩) R s := by
  obtain ⟨hh, g, d, t, os⟩ := s
  exact PySem.W.make_core (PySem.W.makes_of X hm) (PySem.W.looks_findIn X hi) hb (.inr ⟨rfl, rfl⟩) h
end

/-! ### the attributes as a list of pairs -/
def putF (f : Str) (v : V) : List (Str × V) → List (Str × V)
  | [] => [(f, v)]
  | (g, x) :: r => if g = f then (g, v) :: r else (g, x) :: putF f v r
theorem lookup_putF (f g : Str) (v : V) : ∀ fs : List (Str × V), (putF f v fs).lookup g = if g = f then some v else fs.lookup g
  | [] => by
    show List.lookup g [(f, v)] = _
    by_cases h : g = f
    · have hb : (g == f) = true := beq_iff_eq.mpr h
      simp only [List.lookup, hb, if_pos h]
    · have hb : (g == f) = false := beq_eq_false_iff_ne.mpr h
      simp only [List.lookup, hb, if_neg h]
  | (k, x) :: r => by
    have ih := lookup_putF f g v r
    rw [show putF f v ((k, x) :: r) = (if k = f then (k, v) :: r else (k, x) :: putF f v r) from rfl]
    by_cases hk : k = f
    · rw [if_pos hk]
      by_cases h : g = k
      · have hb : (g == k) = true := beq_iff_eq.mpr h
        simp only [List.lookup, hb, if_pos (h.trans hk)]
      · have hb : (g == k) = false := beq_eq_false_iff_ne.mpr h
        simp only [List.lookup, hb, if_neg (fun e : g = f => h (e.trans hk.symm))]
    · rw [if_neg hk]
      by_cases h : g = k
      · have hb : (g == k) = true := beq_iff_eq.mpr h
        simp only [List.lookup, hb, if_neg (fun e : g = f => hk (h.symm.trans e))]
      · have hb : (g == k) = false := beq_eq_false_iff_ne.mpr h
        simp only [List.lookup, hb]
        exact ih
theorem keys_putF (f : Str) (v : V) : ∀ fs : List (Str × V), f ∈ (putF f v fs).map (·.1) ∧ ∀ g, g ∈ fs.map (·.1) → g ∈ (putF f v fs).map (·.1)
  | [] => ⟨by simp [putF], fun g h => by simp at h⟩
  | (k, x) :: r => by
    obtain ⟨i1, i2⟩ := keys_putF f v r
    rw [show putF f v ((k, x) :: r) = (if k = f then (k, v) :: r else (k, x) :: putF f v r) from rfl]
    by_cases hk : k = f
    · rw [if_pos hk]
      subst hk
      exact ⟨by simp, fun g h => by simpa using h⟩
    · rw [if_neg hk]
      refine ⟨?_, fun g h => ?_⟩
      · rw [List.map_cons]
        exact List.mem_cons_of_mem _ i1
      · rw [List.map_cons] at h ⊢
        rcases List.mem_cons.mp h with e | e
        · exact List.mem_cons.mpr (.inl e)
        · exact List.mem_cons_of_mem _ (i2 g e)
theorem length_putF (f : Str) (v : V) : ∀ fs : List (Str × V), (putF f v fs).length ≤ fs.length + 1
  | [] => by simp [putF]
  | (k, x) :: r => by
    have ih := length_putF f v r
    rw [show putF f v ((k, x) :: r) = (if k = f then (k, v) :: r else (k, x) :: putF f v r) from rfl]
    by_cases hk : k = f
    · rw [if_pos hk, List.length_cons, List.length_cons]; omega
    · rw [if_neg hk, List.length_cons, List.length_cons]; omega

theorem RelO.some_of {v : V} {o : Option Value} (r : RelO (some v) o) : ∃ u, o = some u ∧ RelV v u := by
  cases o with
  | none => exact (show False from r).elim
  | some u => exact ⟨u, rfl, r⟩
theorem RelO.none_of {o : Option Value} (r : RelO none o) : o = none := by
  cases o with
  | none => rfl
  | some u => exact (show False from r).elim
theorem handed_of {v : V} {u : Value} (r : RelV v u) : PySem.W.handedIn u = true := by
  cases v with
  | non => cases (show u = Value.none from r); rfl
  | bl b => cases (show u = Value.bool b from r); rfl
  | int i => obtain ⟨t, e⟩ := (show ∃ t, u = Value.int i t from r); cases e; rfl
  | str x => obtain ⟨t, e⟩ := (show ∃ t, u = Value.str x t from r); cases e; rfl
  | byt b => obtain ⟨t, e⟩ := (show ∃ t, u = Value.bytes b t from r); cases e; rfl
  | flt b => obtain ⟨t, e⟩ := (show ∃ t, u = Value.float b t from r); cases e; rfl
  | ref a => cases (show u = Value.ref a from r); rfl
  | ty n => cases (show u = Value.type n from r); rfl

section
variable {P : Program} {w : World} {H H' : Hp} {h h' : Heap} {a C dx : Addr} {fs fs' : List (Str × V)}
theorem ins_get (hok : HOk P w H h) (e : H a = some (.ins C dx fs)) : ∃ mA, ObjM h a dx C mA ∧ (∀ f, RelO (fs.lookup f) (mA f)) ∧ PySem.Within mA (fs.map (·.1)) ∧ fs.length ≤ 1000 ∧ H dx = some (.own a) := by
  obtain ⟨d, z, ne, ob, mA, n, r, q⟩ := (show ObjOk P w H h a (.ins C dx fs) from hok a _ e)
  exact ⟨mA, ⟨ob, n, ne⟩, r, q, z, d⟩
end

/-! ### what of the text a class must have -/
structure Cls (K : PySem.W.Frag) (C : Addr) : Prop where
  pg : PySem.W.plainGet K C Str.empty = true
  hd : PySem.W.hasDictIn K C = true
  po : PySem.W.plainOver K C = true
  sa : PySem.W.findIn K (.ref C) "__setattr__" = some (some (.builtin "object.__setattr__"))
theorem Cls.get {K : PySem.W.Frag} {C : Addr} (c : Cls K C) (f : Str) : PySem.W.plainGet K C f = true := c.pg
/-- no class of it has the name -/
def NoAttr (K : PySem.W.Frag) (C : Addr) (f : Str) : Prop := PySem.W.findIn K (.ref C) f = some none
theorem NoAttr.taker {K : PySem.W.Frag} {C : Addr} {f : Str} (n : NoAttr K C f) : PySem.W.takerIn K C f = some none := by
  unfold PySem.W.takerIn
  rw [show PySem.W.findIn K (.ref C) f = some none from n]
  rfl
/-- a constant of the class -/
structure Con (K : PySem.W.Frag) (C : Addr) (f : Str) (v : V) (u : Value) : Prop where
  at_ : PySem.W.findIn K (.ref C) f = some (some u)
  rel : RelV v u
  get : PySem.W.specialIn K u "__get__" = some none
  cp : PySem.W.copiedNames.contains f = false
/-- a method: a plain def of the class or of one above it -/
structure Meth (K : PySem.W.Frag) (C : Addr) (m : Str) (f : Addr) : Prop where
  at_ : PySem.W.findIn K (.ref C) m = some (some (.ref f))
  fn : PySem.W.isFn K (.ref f) = true
  kp : PySem.W.keepIn K (.ref f) = true

section
variable {X : Cx} {pins : List (Addr × Obj)} {σ : St} {H : Hp} {s : Shared} {a C dx : Addr} {fs : List (Str × V)} {f : Str} {v : V} {A : Around} {E : Value → Shared → Prop}

theorem getattr_ok {b : Bool} {Q : Value → Shared → Prop} (I : Inv X pins σ H s) (e : H a = some (.ins C dx fs)) (c : Cls X.K C) (n : NoAttr X.K C f) (l : fs.lookup f = some v)
    (h : ∀ u s', Inv X pins σ H s' → RelV v u → Q u s') : wpAny (model X.prog X.w) A (getAttr (.ref a) f b) Q E s := by
  obtain ⟨mA, O, r, _, _, _⟩ := ins_get I.hok e
  obtain ⟨u, hu, ru⟩ := RelO.some_of (v := v) (o := mA f) (by rw [← l]; exact r f)
  exact get_map I.kIn O (c.get f) c.hd n hu (handed_of ru) (h u _ (I.tok _) ru)

theorem getcon_ok {b : Bool} {u : Value} {Q : Value → Shared → Prop} (I : Inv X pins σ H s) (e : H a = some (.ins C dx fs)) (c : Cls X.K C) (k : Con X.K C f v u) (l : fs.lookup f = none)
    (h : ∀ s', Inv X pins σ H s' → Q u s') : wpAny (model X.prog X.w) A (getAttr (.ref a) f b) Q E s := by
  obtain ⟨mA, O, r, _, _, _⟩ := ins_get I.hok e
  have hn : mA f = none := RelO.none_of (by rw [← l]; exact r f)
  exact get_const I.kIn O (c.get f) c.hd k.at_ k.get k.cp hn (handed_of k.rel) (h _ (I.tok _))

theorem getmeth_ok {m : Str} {g : Addr} {pl : Sem Bool} {Q : Value × List Value → Shared → Prop} (I : Inv X pins σ H s) (e : H a = some (.ins C dx fs)) (c : Cls X.K C) (k : Meth X.K C m g) (l : fs.lookup m = none)
    (h : Q (.ref g, [.ref a]) s) : wpAny (model X.prog X.w) A (getMethod (.ref a) m pl) Q E s := by
  obtain ⟨mA, O, r, _, _, _⟩ := ins_get I.hok e
  have hn : mA m = none := RelO.none_of (by rw [← l]; exact r m)
  exact get_meth I.kIn O (c.get m) k.at_ k.fn hn h

theorem setattr_ok {y : V} {u : Value} {Q : Unit → Shared → Prop} (I : Inv X pins σ H s) (e : H a = some (.ins C dx fs)) (c : Cls X.K C) (n : NoAttr X.K C f) (hl : fs.length < 1000) (ry : RelV y u)
    (h : ∀ s', Inv X pins σ (upd H a (.ins C dx (putF f y fs))) s' → Q () s') : wpAny (model X.prog X.w) A (setAttr (.ref a) f u) Q E s := by
  obtain ⟨mA, O, r, wi, _, ho⟩ := ins_get I.hok e
  have hz : (fs.map (·.1)).length ≤ sizeLine := by rw [List.length_map, sizeLine_eq]; omega
  refine set_map I.kIn O c.sa c.po n.taker c.hd wi hz fun h' O' sb => h _ ?_
  have hd : ∃ o, h'.get? dx = some o := let ⟨o, _, _, e', _⟩ := O'.ns; ⟨o, e'⟩
  refine I.write (x := a) (e := dx) (by rw [e]; exact True.intro) (.inr ho) (fun b q hb z => (sb.2 b hb).trans z) hd ?_
  refine ⟨by rw [upd_ne O.ne]; exact ho, ?_, O.ne, O'.obj, _, O'.ns, fun g => ?_, fun g hg => ?_⟩
  · have := length_putF f y fs; omega
  · show RelO ((putF f y fs).lookup g) (if g = f then some u else mA g)
    rw [lookup_putF]
    by_cases q : g = f
    · rw [if_pos q, if_pos q]; exact ry
    · rw [if_neg q, if_neg q]; exact r g
  · by_cases q : g = f
    · rw [q]; exact (keys_putF f y fs).1
    · refine (keys_putF f y fs).2 g (wi g fun z => hg ?_)
      show (if g = f then some u else mA g) = none
      rw [if_neg q]; exact z

/-- a new instance, tracked, without attributes -/
theorem Inv.made (I : Inv X pins σ H s) : Inv X pins σ (upd (upd H s.heap.objs.size (.own (s.heap.objs.size + 1))) (s.heap.objs.size + 1) (.ins C s.heap.objs.size []))
    { s with heap := (s.heap.push PySem.W.emptyDict).push (PySem.W.instObj C s.heap.objs.size) } := by
  have e1 : (s.heap.push PySem.W.emptyDict).get? s.heap.objs.size = some PySem.W.emptyDict := Heap.get?_push_size s.heap rfl
  have e2 : ((s.heap.push PySem.W.emptyDict).push (PySem.W.instObj C s.heap.objs.size)).get? (s.heap.objs.size + 1) = some (PySem.W.instObj C s.heap.objs.size) := by
    have := Heap.get?_push_size (s.heap.push PySem.W.emptyDict) (o := PySem.W.instObj C s.heap.objs.size) rfl
    rwa [Heap.size_push] at this
  have e3 : (s.heap.push PySem.W.emptyDict).Ns s.heap.objs.size (fun _ => none) := ⟨PySem.W.emptyDict, #[], _, e1, rfl, (fun e he => absurd he (by simp)), fun _ => rfl⟩
  have I1 := I.laid (a := s.heap.objs.size) (o := .own (s.heap.objs.size + 1)) (h' := s.heap.push PySem.W.emptyDict) (t' := s.toks) (fun b u q => Heap.get?_push_of_some _ q) (Nat.le_refl _) ⟨_, e1⟩
  refine I1.laid (a := s.heap.objs.size + 1) (o := .ins C s.heap.objs.size []) (t' := s.toks) (fun b u q => Heap.get?_push_of_some _ q) (Nat.le_of_eq (Heap.size_push _ _)) ?_
  have ne : s.heap.objs.size ≠ s.heap.objs.size + 1 := Nat.ne_of_lt (Nat.lt_succ_self _)
  refine ⟨by rw [upd_ne ne, upd_same], Nat.zero_le _, ne, e2, fun _ => none, (Heap.Ns1.of_empty e3).at fun o q => Heap.get?_push_of_some _ q, fun _ => True.intro, fun y hy => absurd rfl hy⟩

/-- e.f where nothing but the object is asked: through attributeBase (super) and the last hold -/
theorem attr_of {prog : Program} {w : World} {env : Env} {e : Expr} {f : Str} {pos : Pos} {s : Shared} {Q : Value → Shared → Prop} (hb : attributeBase e f env (eval e env) = eval e env)
    (h : wpAny (model prog w) A (eval e env) (fun o s₁ => wpAny (model prog w) A (getAttr o f true) Q E s₁) E s) : wpAny (model prog w) A (eval (.Attribute e f pos) env) Q E s :=
  Attribute_any_ h (by rw [arm_eval_Attribute, hb])
end

/-! ### readings and rules -/
/-- e.f, an attribute of the instance -/
def tFld (K : PySem.W.Frag) (ta : TE) (f : Str) : TE := fun σ H Q => ta σ H fun x H1 => ∃ a C dx fs v, x = .ref a ∧ H1 a = some (.ins C dx fs) ∧ Cls K C ∧ NoAttr K C f ∧ fs.lookup f = some v ∧ Q v H1
/-- e.f, a constant of the class -/
def tCon (K : PySem.W.Frag) (ta : TE) (f : Str) : TE := fun σ H Q => ta σ H fun x H1 => ∃ a C dx fs v u, x = .ref a ∧ H1 a = some (.ins C dx fs) ∧ Cls K C ∧ Con K C f v u ∧ fs.lookup f = none ∧ Q v H1
/-- e.f = value -/
def sFld (K : PySem.W.Frag) (ta tv : TE) (f : Str) : TS := fun D σ H => tv σ H fun y H1 => ta σ H1 fun x H2 => ∃ a C dx fs, x = .ref a ∧ H2 a = some (.ins C dx fs) ∧ Cls K C ∧ NoAttr K C f ∧ fs.length < 1000 ∧
  D.nx σ (upd H2 a (.ins C dx (putF f y fs)))
/-- an augmented operator on two values -/
def InOp (X : Cx) (op : Operator) (rd : V → V → Hp → VK → Prop) : Prop :=
  ∀ (pins : List (Addr × Obj)) (s : Shared) (σ : St) (H : Hp) (x y : V) (u v : Value) (Q : VK), Inv X pins σ H s → RelV x u → RelV y v → rd x y H Q → wpAny (model X.prog X.w) X.A (inplaceOp op u v) (EP X pins σ Q) X.xe s
/-- e.f op= value -/
def sFldAug (K : PySem.W.Frag) (ta tv : TE) (rd : V → V → Hp → VK → Prop) (f : Str) : TS := fun D σ H => ta σ H fun x H1 => ∃ a C dx fs v, x = .ref a ∧ H1 a = some (.ins C dx fs) ∧ Cls K C ∧ NoAttr K C f ∧ fs.lookup f = some v ∧
  tv σ H1 fun y H2 => rd v y H2 fun z H3 => ∃ dx' fs', H3 a = some (.ins C dx' fs') ∧ fs'.length < 1000 ∧ D.nx σ (upd H3 a (.ins C dx' (putF f z fs')))

section
variable {X : Cx} {o e value : Expr} {f : Str} {pos pos' tpos : Pos} {ta tv : TE}
theorem pe_fld (he : PE X e ta) (hb : attributeBase e f X.env (eval e X.env) = eval e X.env) : PE X (.Attribute e f pos) (tFld X.K ta f) := by
  intro pins s σ H Q I h
  refine attr_of hb (thn (he pins s σ H _ I h) fun u s1 ⟨x, H1, I1, rx, a, C, dx, fs, v, ex, ea, c, n, l, q⟩ => ?_)
  subst ex
  obtain rfl : u = Value.ref a := rx
  exact getattr_ok I1 ea c n l fun u' s2 I2 ru => ⟨v, H1, I2, ru, q⟩
theorem pe_con (he : PE X e ta) (hb : attributeBase e f X.env (eval e X.env) = eval e X.env) : PE X (.Attribute e f pos) (tCon X.K ta f) := by
  intro pins s σ H Q I h
  refine attr_of hb (thn (he pins s σ H _ I h) fun u s1 ⟨x, H1, I1, rx, a, C, dx, fs, v, u0, ex, ea, c, k, l, q⟩ => ?_)
  subst ex
  obtain rfl : u = Value.ref a := rx
  exact getcon_ok I1 ea c k l fun s2 I2 => ⟨v, H1, I2, k.rel, q⟩
theorem ps_fld (ha : PE X o ta) (hv : PE X value tv) (hs : swapsWith value (some (.Attribute o f pos')) pos.line X.env = pure false) : PS X (.Assign [.Attribute o f pos'] value pos) (sFld X.K ta tv f) := by
  intro pins s σ H D I h
  refine plainObj_wpAny_Assign_Attribute (thn (hv pins s σ H _ I h) fun u s1 ⟨y, H1, I1, ry, q⟩ => thn (ha pins s1 σ H1 _ I1 q) fun ov s2 ⟨x, H2, I2, rx, a, C, dx, fs, ex, ea, c, n, l, q2⟩ => ?_) hs
  subst ex
  obtain rfl : ov = Value.ref a := rx
  exact setattr_ok I2 ea c n l ry fun s3 I3 => ⟨σ, _, I3, q2⟩
theorem ps_fldaug {op : Operator} {rd : V → V → Hp → VK → Prop} (ha : PE X o ta) (hv : PE X value tv) (hop : InOp X op rd) : PS X (.AugAssign (.Attribute o f tpos) op value pos) (sFldAug X.K ta tv rd f) := by
  intro pins s σ H D I h
  refine wpAny_AugAssign_AttributeAny (thn (ha pins s σ H _ I h) fun ov s1 ⟨x, H1, I1, rx, a, C, dx, fs, v, ex, ea, c, n, l, q⟩ => ?_)
  subst ex
  obtain rfl : ov = Value.ref a := rx
  refine getattr_ok I1 ea c n l fun u s2 I2 ru => thn (hv pins s2 σ H1 _ I2 q) fun w3 s3 ⟨y, H2, I3, ry, q3⟩ => thn (hop pins s3 σ H2 v y u w3 _ I3 ru ry q3) fun w4 s4 ⟨z, H3, I4, rz, dx', fs', ea', l', q4⟩ => ?_
  exact setattr_ok I4 ea' c n l' rz fun s5 I5 => ⟨σ, _, I5, q4⟩
def rAdd : V → V → Hp → VK → Prop := fun x y H Q => ∃ i j, x = .int i ∧ y = .int j ∧ Q (.int (i + j)) H
def rSub : V → V → Hp → VK → Prop := fun x y H Q => ∃ i j, x = .int i ∧ y = .int j ∧ Q (.int (i - j)) H
theorem in_add : InOp X .Add rAdd := by
  rintro pins s σ H x y u v Q I rx ry ⟨i, j, rfl, rfl, q⟩
  obtain ⟨t, rfl⟩ := (show ∃ t, u = Value.int i t from rx)
  obtain ⟨t', rfl⟩ := (show ∃ t', v = Value.int j t' from ry)
  exact PyProof.Rows.iadd_int ⟨.int (i + j), H, I.tok _, ⟨_, rfl⟩, q⟩
theorem in_sub : InOp X .Sub rSub := by
  rintro pins s σ H x y u v Q I rx ry ⟨i, j, rfl, rfl, q⟩
  obtain ⟨t, rfl⟩ := (show ∃ t, u = Value.int i t from rx)
  obtain ⟨t', rfl⟩ := (show ∃ t', v = Value.int j t' from ry)
  exact PyProof.Rows.isub_int ⟨.int (i - j), H, I.tok _, ⟨_, rfl⟩, q⟩

/-- what is between an instance and its method: the tree of a method call -/
theorem methcall_of {pl : Sem Bool} {m : Str} {apos : Pos} {args : List Expr} {pins : List (Addr × Obj)} {s : Shared} {σ : St} {H : Hp} {Q : Value → Shared → Prop} {te : TE} (he : PE X e te) (I : Inv X pins σ H s)
    (h : te σ H fun x H1 => ∃ a C dx fs g, x = .ref a ∧ H1 a = some (.ins C dx fs) ∧ Cls X.K C ∧ Meth X.K C m g ∧ fs.lookup m = none ∧
      ∀ s1, Inv X pins σ H1 s1 → wpAny (model X.prog X.w) X.A (callWith pos (.ref g) [.ref a] (backTo pos (starEach args X.env)) (backToKw pos (keywordEach [] X.env))) Q X.xe s1)
    (ht : eval (.Call (.Attribute e m apos) args [] pos) X.env = (do
      let ov ← eval e X.env
      standAt apos.atName
      let (f, first) ← holding [ov] (getMethod ov m pl)
      callWith pos f first (backTo pos (starEach args X.env)) (backToKw pos (keywordEach [] X.env)))) :
    wpAny (model X.prog X.w) X.A (eval (.Call (.Attribute e m apos) args [] pos) X.env) Q X.xe s := by
  refine PySem.W.methodCall_KW (pl := pl) (thn (he pins s σ H _ I h) fun u s1 ⟨x, H1, I1, rx, a, C, dx, fs, g, ex, ea, c, k, l, q⟩ => ?_) ht
  subst ex
  obtain rfl : u = Value.ref a := rx
  exact getmeth_ok I1 ea c k l (q s1 I1)
end

/-! ### isinstance -/
section
variable {X : Cx} {pins : List (Addr × Obj)} {σ : St} {H : Hp} {s : Shared} {A : Around} {E : Value → Shared → Prop} {Q : Value → Shared → Prop} {c : Value} {b : Bool}
/-- the type of a value, as the fragment's deciders take it; for an instance its class -/
inductive TyOf (K : PySem.W.Frag) (H : Hp) : V → Value → Prop where
  | non : TyOf K H .non (.type "NoneType")
  | bl (x : Bool) : TyOf K H (.bl x) (.type "bool")
  | int (i : Int) : TyOf K H (.int i) (.type "int")
  | str (x : Str) : TyOf K H (.str x) (.type "str")
  | flt (x : UInt64) : TyOf K H (.flt x) (.type "float")
  | lst {a : Addr} {xs : List V} (e : H a = some (.lst xs)) : TyOf K H (.ref a) (.type "list")
  | frz {a : Addr} {o : Obj} {xs : List V} (e : H a = some (.frz o (.lst xs))) : TyOf K H (.ref a) (.type "list")
  | tup {a : Addr} {xs : List V} (e : H a = some (.tup xs)) : TyOf K H (.ref a) (.type "tuple")
  | dK {a : Addr} {kvs : List (Key × V)} (e : H a = some (.dK kvs)) : TyOf K H (.ref a) (.type "dict")
  | dT {a : Addr} {kvs : List (List Key × V)} (e : H a = some (.dT kvs)) : TyOf K H (.ref a) (.type "dict")
  | ins {a C dx : Addr} {fs : List (Str × V)} (e : H a = some (.ins C dx fs)) (cl : Cls K C) (ha : PySem.W.findIn K (.ref C) "__class__" = some (some (.builtin "object.__class__")))
      (hn : PySem.W.specialIn K (.builtin "object.__class__") "__get__" = some (some (.builtin "getset_descriptor.__get__"))) (htk : PySem.W.takesIn K (.builtin "object.__class__") = some true)
      (hm : PySem.W.mroIn K C (.type "object") = some true) : TyOf K H (.ref a) (.ref C)
/-- isinstance(x, c) for one class c, a built-in or an own one: kitOne's answer -/
theorem isinst_ok {x : V} {u t : Value} (I : Inv X pins σ H s) (rx : RelV x u) (ty : TyOf X.K H x t) (e : PySem.W.kitOne X.K t c = some b) (h : ∀ tk, Q (.bool b) { s with toks := tk }) :
    wpAny (model X.prog X.w) A (call (.builtin "isinstance") [u, c]) Q E s := by
  cases ty with
  | non => cases (show u = Value.none from rx); exact PySem.W.kia_one PySem.W.kitx_none I.kIn True.intro e (fun z => nomatch z) h
  | bl y => cases (show u = Value.bool y from rx); exact PySem.W.kia_one PySem.W.kitx_bool I.kIn True.intro e (fun z => nomatch z) h
  | int i => obtain ⟨t, q⟩ := (show ∃ t, u = Value.int i t from rx); cases q; exact PySem.W.kia_one PySem.W.kitx_int I.kIn True.intro e (fun z => nomatch z) h
  | str y => obtain ⟨t, q⟩ := (show ∃ t, u = Value.str y t from rx); cases q; exact PySem.W.kia_one PySem.W.kitx_str I.kIn True.intro e (fun z => nomatch z) h
  | flt y => obtain ⟨t, q⟩ := (show ∃ t, u = Value.float y t from rx); cases q; exact PySem.W.kia_one PySem.W.kitx_float I.kIn True.intro e (fun z => nomatch z) h
  | @lst a xs ea =>
    cases (show u = Value.ref a from rx)
    obtain ⟨_, _, n, _, h1⟩ := (show ObjOk X.prog X.w H s.heap a (.lst xs) from I.hok a _ ea)
    exact PySem.W.kia_one PySem.W.kitx_list I.kIn ⟨_, h1, rfl⟩ e (fun z => nomatch z) h
  | @frz a ob xs ea =>
    cases (show u = Value.ref a from rx)
    obtain ⟨_, _, _, n, _, h1⟩ := (show ObjOk X.prog X.w H s.heap a (.frz ob (.lst xs)) from I.hok a _ ea)
    exact PySem.W.kia_one PySem.W.kitx_list I.kIn ⟨_, h1, rfl⟩ e (fun z => nomatch z) h
  | @tup a xs ea =>
    cases (show u = Value.ref a from rx)
    obtain ⟨_, _, _, p⟩ := (show ObjOk X.prog X.w H s.heap a (.tup xs) from I.hok a _ ea)
    obtain ⟨o, h1, h2, _⟩ := p
    exact PySem.W.kia_one PySem.W.kitx_tuple I.kIn ⟨o, h1, h2⟩ e (fun z => nomatch z) h
  | @dK a kvs ea =>
    cases (show u = Value.ref a from rx)
    obtain ⟨_, _, vs, _, p⟩ := (show ObjOk X.prog X.w H s.heap a (.dK kvs) from I.hok a _ ea)
    obtain ⟨o, es, ep, h1, h2, _⟩ := p
    exact PySem.W.kia_one PySem.W.kitx_dict I.kIn ⟨o, h1, h2.1⟩ e (fun z => nomatch z) h
  | @dT a kvs ea =>
    cases (show u = Value.ref a from rx)
    obtain ⟨_, _, xs, _, o, es, ep, h1, h2, _⟩ := (show ObjOk X.prog X.w H s.heap a (.dT kvs) from I.hok a _ ea)
    exact PySem.W.kia_one PySem.W.kitx_dict I.kIn ⟨o, h1, h2.1⟩ e (fun z => nomatch z) h
  | @ins a C dx fs ea cl ha hn htk hm =>
    cases (show u = Value.ref a from rx)
    obtain ⟨mA, O, _⟩ := ins_get I.hok ea
    obtain ⟨od, J, _⟩ := O.look
    exact PySem.W.kia_one (PySem.W.kitx_own (cl.get _) cl.hd ha hn htk hm) I.kIn J e (fun z => nomatch z) h
end
end L2

namespace L2
open PySem PySem.Spec PyProof.Rows

/-! ### room -/
structure Room (k : Nat) (A : Around) : Prop where
  hd : A.handled = none
  dp : A.depth + 3 * k + 5 < recursionLimit
  un : A.units + 16 * k + 200 < cLine
theorem Room.mono {j k : Nat} {A : Around} (r : Room k A) (h : j ≤ k) : Room j A := ⟨r.hd, by have := r.dp; omega, by have := r.un; omega⟩
theorem Room.deeper {k : Nat} {A : Around} (r : Room (k + 1) A) (env : Env) : Room k (A.deeper env) :=
  ⟨r.hd, by have := r.dp; show A.depth + 1 + 3 * k + 5 < _; omega, by have := r.un; show A.units + 3 + 16 * k + 200 < _; omega⟩
theorem Room.in1 {k : Nat} {A : Around} (r : Room (k + 1) A) : Room k A.in1 :=
  ⟨r.hd, by have := r.dp; show A.depth + 3 * k + 5 < _; omega, by have := r.un; show A.units + 1 + 16 * k + 200 < _; omega⟩
theorem make_depth {A : Around} {C : Addr} {us : List Value} {kw : List (Str × Value)} : (A.under (.builtin "type.__call__" ⟨.ref C :: us, kw⟩)).depth = A.depth + 1 := by
  first | rfl | simp [Around.under, Code.weight, Code.isCreation, Code.isGuard, Code.isCaller, Code.frames, Code.isFrame, guardIds]
theorem make_units {A : Around} {C : Addr} {us : List Value} {kw : List (Str × Value)} : (A.under (.builtin "type.__call__" ⟨.ref C :: us, kw⟩)).units = A.units + 1 := by
  first | rfl | simp [Around.under, Code.cUnits, Code.frames, Code.isFrame]
theorem Room.make {k : Nat} {A : Around} (r : Room (k + 1) A) (C : Addr) (us : List Value) (kw : List (Str × Value)) : Room k (A.under (.builtin "type.__call__" ⟨.ref C :: us, kw⟩)) :=
  ⟨r.hd, by have := r.dp; rw [make_depth]; omega, by have := r.un; rw [make_units]; omega⟩
theorem Room.depth {k : Nat} {A : Around} (r : Room k A) : A.depth < recursionLimit := by have := r.dp; omega
theorem Room.units {k : Nat} {A : Around} (r : Room k A) : A.units + 64 < cLine := by have := r.un; omega
theorem Room.units0 {k : Nat} {A : Around} (r : Room k A) : A.units < cLine := by have := r.un; omega

/-! ### argument lists and displays -/
def tNil : TA := fun _ H Q => Q [] H
def tCons (ta : TE) (tr : TA) : TA := fun σ H Q => ta σ H fun x H1 => tr σ H1 fun xs H2 => Q (x :: xs) H2
section
variable {X : Cx} {e : Expr} {es : List Expr} {te : TE} {t : TA} {pos : Pos}
theorem pa_nil : PA X [] tNil := fun _ _ _ _ H Q I h => Calls.spliced_nil ⟨[], H, I, .nil, h⟩
theorem pa_cons (ha : PE X e te) (hr : PA X es t) (hs : starEach (e :: es) X.env = (false, eval e X.env) :: starEach es X.env := by rfl) : PA X (e :: es) (tCons te t) := by
  intro pos pins s σ H Q I h
  rw [hs]
  show wpAny _ _ (spliced ((false, eval e X.env) :: backTo pos (starEach es X.env))) _ _ s
  refine Calls.spliced_cons (thn (ha pins s σ H _ I h) fun u s1 ⟨x, H1, I1, r1, q1⟩ => ?_)
  exact thn (hr pos pins s1 σ H1 _ I1 q1) fun us s2 ⟨xs, H2, I2, r2, q2⟩ => ⟨x :: xs, H2, I2, .cons r1 r2, q2⟩

/-- a tuple, a list of written items -/
def tTup (t : TA) : TE := fun σ H Q => t σ H fun xs H1 => xs.length ≤ sizeLine ∧ ∀ p, H1 p = none → Q (.ref p) (upd H1 p (.tup xs))
def tLst (t : TA) : TE := fun σ H Q => t σ H fun xs H1 => xs.length ≤ sizeLine ∧ ∀ p, H1 p = none → Q (.ref p) (upd H1 p (.lst xs))
theorem pe_tup {x1} (h : PA X es t) : PE X (.Tuple es x1 pos) (tTup t) := by
  intro pins s σ H Q I hq
  refine wpAny_Tuple_spliced (thn (h pos pins s σ H _ I hq) fun us s1 ⟨xs, H1, I1, r, z, q⟩ => ⟨by rw [← r.length]; exact z, ?_⟩)
  have hf : H1 s1.heap.objs.size = none := I1.hok.fresh (Nat.le_refl _)
  refine ⟨.ref s1.heap.objs.size, upd H1 s1.heap.objs.size (.tup xs), I1.laid (t' := s1.toks) (fun b u e => Heap.get?_push_of_some _ e) (Nat.le_refl _) ?_, rfl, q _ hf⟩
  exact ⟨z, us, r, ⟨_, Heap.get?_push_size _ rfl, rfl, _, rfl⟩⟩
theorem pe_lst (h : PA X es t) : PE X (.List es pos) (tLst t) := by
  intro pins s σ H Q I hq
  refine wpAny_List_spliced (thn (h pos pins s σ H _ I hq) fun us s1 ⟨xs, H1, I1, r, z, q⟩ => ⟨by rw [← r.length]; exact z, ?_⟩)
  have hf : H1 s1.heap.objs.size = none := I1.hok.fresh (Nat.le_refl _)
  refine ⟨.ref s1.heap.objs.size, upd H1 s1.heap.objs.size (.lst xs), I1.laid (t' := s1.toks) (fun b u e => Heap.get?_push_of_some _ e) (Nat.le_refl _) ?_, rfl, q _ hf⟩
  exact ⟨z, us, 0, r, Heap.get?_push_size _ rfl⟩
end

/-! ### what a def promises -/
/-- a def's promise: the bound arguments in the parameters' order, the heap, the wanted end, the wanted exception -/
abbrev Sp := List V → Hp → VK → XK → Prop
/-- how an exception lies behind a call (file 08 gives it): the callers' frames, abstract heap and state ahead of the call, the wish, the exception, the state -/
abbrev CXT := List Env → Hp → Shared → XK → Value → Shared → Prop

/-- the state at a call -/
structure Env0 (P : Program) (w : World) (K : PySem.W.Frag) (mg : Str → Option Value) (base : Heap) (A : Around) (outer : List Env) (s : Shared) (H : Hp) : Prop where
  frames : A.frames = some outer
  mod : Mod K mg base
  bs : ∀ b o, base.get? b = some o → s.heap.get? b = some o ∧ H b = none
  bsz : base.objs.size ≤ s.heap.objs.size
  funs : s.heap.FunFrames base outer
  frf : ∀ b ∈ frs outer, H b = none
  hok : HOk P w H s.heap
  bare : AllBare s.gens
/-- a call's end -/
def CE (outer : List Env) (P : Program) (w : World) (H : Hp) (s : Shared) (Q : VK) (u : Value) (s' : Shared) : Prop :=
  ∃ v H', s'.os = s.os ∧ AllBare s'.gens ∧ Un (frs outer) [] H H' s.heap s'.heap ∧ HOk P w H' s'.heap ∧ RelV v u ∧ Q v H'
def CR (CX : CXT) (outer : List Env) (P : Program) (w : World) (H : Hp) (s : Shared) (Q : VK) (E : XK) (r : Result) (s' : Shared) : Prop :=
  match r with
  | .ok (.ret u) => CE outer P w H s Q u s'
  | .ok _ => False
  | .error e => CX outer H s E e s'
structure FnOk (P : Program) (w : World) (K : PySem.W.Frag) (mg : Str → Option Value) (base : Heap) (CX : CXT) (k : Nat) (f : Addr) (fd : FuncData) (ps : List Str) (sp : Sp) : Prop where
  len : ∀ vs H Q E, sp vs H Q E → vs.length = ps.length
  run : ∀ (A : Around) (outer : List Env) (s : Shared) (H : Hp) (args : Args) (us : List Value) (vs : List V) (Q : VK) (E : XK), Room k A → Env0 P w K mg base A outer s H → BindsTo s fd args (ps.zip us) → Vals vs us → sp vs H Q E →
    codeAny (model P w) A (.call (.ref f) args) (CR CX outer P w H s Q E) s
theorem FnOk.mono {P : Program} {w : World} {K : PySem.W.Frag} {mg : Str → Option Value} {base : Heap} {CX : CXT} {j k : Nat} {f : Addr} {fd : FuncData} {ps : List Str} {sp : Sp} (F : FnOk P w K mg base CX j f fd ps sp) (h : j ≤ k) :
    FnOk P w K mg base CX k f fd ps sp := ⟨F.len, fun A outer s H args us vs Q E hr => F.run A outer s H args us vs Q E (hr.mono h)⟩
/-- a weaker promise -/
theorem FnOk.imp {P : Program} {w : World} {K : PySem.W.Frag} {mg : Str → Option Value} {base : Heap} {CX : CXT} {k : Nat} {f : Addr} {fd : FuncData} {ps : List Str} {sp sp' : Sp} (F : FnOk P w K mg base CX k f fd ps sp)
    (h : ∀ vs H Q E, sp' vs H Q E → sp vs H Q E) : FnOk P w K mg base CX k f fd ps sp' :=
  ⟨fun vs H Q E q => F.len vs H Q E (h _ _ _ _ q), fun A outer s H args us vs Q E hr he hb hv hs => F.run A outer s H args us vs Q E hr he hb hv (h _ _ _ _ hs)⟩

theorem Env0.make {P : Program} {w : World} {K : PySem.W.Frag} {mg : Str → Option Value} {base : Heap} {A : Around} {outer : List Env} {s : Shared} {H : Hp} (e : Env0 P w K mg base A outer s H) (C : Addr) (us : List Value) (kw : List (Str × Value)) :
    Env0 P w K mg base (A.under (.builtin "type.__call__" ⟨.ref C :: us, kw⟩)) outer s H := ⟨by first | exact e.frames | (simpa [Around.under, Code.envs, Code.isFrame, pushEnvs] using e.frames), e.mod, e.bs, e.bsz, e.funs, e.frf, e.hok, e.bare⟩
theorem Env0.in1 {P : Program} {w : World} {K : PySem.W.Frag} {mg : Str → Option Value} {base : Heap} {A : Around} {outer : List Env} {s : Shared} {H : Hp} (e : Env0 P w K mg base A outer s H) :
    Env0 P w K mg base A.in1 outer s H := ⟨e.frames, e.mod, e.bs, e.bsz, e.funs, e.frf, e.hok, e.bare⟩

section
variable {X : Cx} {pins : List (Addr × Obj)} {σ : St} {H : Hp} {s s' : Shared}
/-- from a body: what a callee wants -/
theorem Inv.env0 (I : Inv X pins σ H s) : Env0 X.prog X.w X.K X.mg X.base X.A X.stack s H :=
  ⟨I.ok.frames, I.ok.mod, I.bs, Nat.le_trans I.ok.bsz I.sz, I.stack, I.stkFree, I.hok, I.bare⟩
/-- behind a call -/
theorem Inv.after {Q : VK} {u : Value} (I : Inv X pins σ H s) (h : CE X.stack X.prog X.w H s Q u s') : EP X pins σ Q u s' := by
  obtain ⟨v, H', os, bare, un, hok, r, q⟩ := h
  obtain ⟨hh, g, d, t, os'⟩ := s'
  obtain rfl : os' = s.os := os
  exact ⟨v, H', I.call (h' := hh) (g' := g) (d' := d) (t' := t) (ch := []) un hok bare (fun b z => absurd z (by simp)), r, q⟩
end

/-! ### calls -/
/-- f(..): the written arguments, then the defaults dvs; E: what is wanted of an exception -/
def tCall (sp : Sp) (dvs : List V) (E : XK) (t : TA) : TE := fun σ H Q => t σ H fun vs H1 => sp (vs ++ dvs) H1 Q E
/-- o.m(..) of an instance of the class at C -/
def tMeth (C : Addr) (m : Str) (sp : Sp) (dvs : List V) (E : XK) (ta : TE) (t : TA) : TE := fun σ H Q => ta σ H fun x H1 => ∃ a dx fs, x = .ref a ∧ H1 a = some (.ins C dx fs) ∧ fs.lookup m = none ∧
  t σ H1 fun vs H2 => sp (x :: (vs ++ dvs)) H2 Q E
/-- C(..): a new instance and its dict, then __init__ -/
def tMake (C : Addr) (sp : Sp) (dvs : List V) (E : XK) (t : TA) : TE := fun σ H Q => t σ H fun vs H1 => ∀ x dx, H1 x = none → H1 dx = none → dx ≠ x →
  sp (.ref x :: (vs ++ dvs)) (upd (upd H1 dx (.own x)) x (.ins C dx [])) (fun v H2 => v = .non ∧ Q (.ref x) H2) E

/-- how the parameters are bound: us the positional arguments, kw the keywords' values by name, ds the defaults that fill up -/
def Binds (K : PySem.W.Frag) (fd : FuncData) (ps : List Str) (ds : List Value) : Prop :=
  ∀ (s : Shared) (us : List Value), K.In s.heap → (us ++ ds).length = ps.length → BindsTo s fd ⟨us, []⟩ (ps.zip (us ++ ds))
/-- every parameter is given -/
theorem Binds.all {K : PySem.W.Frag} {fd : FuncData} {ps : List Str} (h : ∀ us : List Value, us.length = ps.length → bindArgs fd ⟨us, []⟩ = pure (ps.zip us)) : Binds K fd ps [] := fun s us _ hl => by
  rw [List.append_nil] at hl ⊢
  exact .of_eq (h us hl)

/-- an exception of a callee reaches what this body wants of exceptions -/
def Passes (CX : CXT) (X : Cx) (E : XK) : Prop := ∀ (pins : List (Addr × Obj)) (σ : St) (H : Hp) (s : Shared) (e : Value) (s' : Shared), Inv X pins σ H s → CX X.stack H s E e s' → X.xe e s'

section
variable {X : Cx} {CX : CXT} {k : Nat} {f C : Addr} {fd : FuncData} {ps : List Str} {sp : Sp} {dvs : List V} {ds : List Value} {E : XK} {x m : Str} {p pos apos : Pos} {e o : Expr} {es : List Expr} {ta : TE} {t : TA}

/-- the callee runs -/
theorem run_fn {pins : List (Addr × Obj)} {σ : St} {H : Hp} {s : Shared} {Q : VK} {us : List Value} {vs : List V} (F : FnOk X.prog X.w X.K X.mg X.base CX k f fd ps sp) (hr : Room k X.A) (hb : Binds X.K fd ps ds) (hd : Vals dvs ds) (hx : Passes CX X E)
    (I : Inv X pins σ H s) (r : Vals vs us) (h : sp (vs ++ dvs) H Q E) : wpAny (model X.prog X.w) X.A (call (.ref f) us) (EP X pins σ Q) X.xe s := by
  have r2 : Vals (vs ++ dvs) (us ++ ds) := r.append hd
  have hl : (us ++ ds).length = ps.length := by rw [← r2.length]; exact F.len _ _ _ _ h
  refine wpAny_call (codeAny_mono (F.run X.A X.stack s H ⟨us, []⟩ (us ++ ds) (vs ++ dvs) Q E hr I.env0 (hb s us I.kIn hl) r2 h) fun r s' hq => ?_)
  cases r with
  | error e => exact hx pins σ H s e s' I hq
  | ok fl =>
    cases fl with
    | ret u => exact I.after hq
    | next => exact False.elim hq
    | brk => exact False.elim hq
    | cont => exact False.elim hq

theorem pe_call (F : FnOk X.prog X.w X.K X.mg X.base CX k f fd ps sp) (hr : Room k X.A) (hg : Gl X x) (hm : X.mg x = some (.ref f)) (hk : PySem.W.keepIn X.K (.ref f) = true) (hb : Binds X.K fd ps ds) (hd : Vals dvs ds) (hx : Passes CX X E)
    (ha : PA X (e :: es) t) (hdb : (x == ("__debug__" : Str)) = false := by decide) (he : starEach (e :: es) X.env = (false, eval e X.env) :: starEach es X.env := by rfl) (hpl : (backTo pos (starEach es X.env)).any (·.1) = false := by rfl) :
    PE X (.Call (.Name x p) (e :: es) [] pos) (tCall sp dvs E t) := by
  intro pins s σ H Q I h
  refine wpAny_Call_Name_kw (ld_glob I hg hm ?_ hdb)
  refine PySem.W.callWith_K (h₀ := X.base) I.ok.mod.kin hk (thn (ha pos pins s σ H _ I h) fun us s1 ⟨vs, H1, I1, r, q⟩ => ⟨I1.kIn, ?_⟩) he hpl
  exact run_fn F hr hb hd hx I1 r q
theorem pe_call0 (F : FnOk X.prog X.w X.K X.mg X.base CX k f fd ps sp) (hr : Room k X.A) (hg : Gl X x) (hm : X.mg x = some (.ref f)) (hk : PySem.W.keepIn X.K (.ref f) = true) (hb : Binds X.K fd ps ds) (hd : Vals dvs ds) (hx : Passes CX X E)
    (hdb : (x == ("__debug__" : Str)) = false := by decide) : PE X (.Call (.Name x p) [] [] pos) (tCall sp dvs E tNil) := by
  intro pins s σ H Q I h
  refine wpAny_Call_Name_kw (ld_glob I hg hm ?_ hdb)
  exact PySem.W.callWith_K0 I.kIn hk (run_fn (us := []) F hr hb hd hx I .nil h)

/-- o.m(e, ..) -/
theorem pe_meth {pl : Sem Bool} (he : PE X o ta) (c : Cls X.K C) (hm : Meth X.K C m f) (F : FnOk X.prog X.w X.K X.mg X.base CX k f fd ps sp) (hr : Room k X.A) (hb : Binds X.K fd ps ds) (hd : Vals dvs ds) (hx : Passes CX X E) (ha : PA X (e :: es) t)
    (hst : starEach (e :: es) X.env = (false, eval e X.env) :: starEach es X.env := by rfl) (hpl : (backTo pos (starEach es X.env)).any (·.1) = false := by rfl)
    (ht : eval (.Call (.Attribute o m apos) (e :: es) [] pos) X.env = (do
      let ov ← eval o X.env
      standAt apos.atName
      let (f, first) ← holding [ov] (getMethod ov m pl)
      callWith pos f first (backTo pos (starEach (e :: es) X.env)) (backToKw pos (keywordEach [] X.env))) := by rfl) :
    PE X (.Call (.Attribute o m apos) (e :: es) [] pos) (tMeth C m sp dvs E ta t) := by
  intro pins s σ H Q I h
  refine PySem.W.methodCall_KW (pl := pl) (thn (he pins s σ H _ I h) fun u s1 ⟨x, H1, I1, rx, a, dx, fs, ex, ea, l, q⟩ => ?_) ht
  subst ex
  obtain rfl : u = Value.ref a := rx
  refine getmeth_ok I1 ea c hm l ?_
  refine PySem.W.callWith_K (first := [.ref a]) (h₀ := X.base) I.ok.mod.kin hm.kp (thn (ha pos pins s1 σ H1 _ I1 q) fun us s2 ⟨vs, H2, I2, r, q2⟩ => ⟨I2.kIn, ?_⟩) hst hpl
  exact run_fn (us := .ref a :: us) (vs := .ref a :: vs) F hr hb hd hx I2 (.cons rfl r) q2
/-- o.m() -/
theorem pe_meth0 {pl : Sem Bool} (he : PE X o ta) (c : Cls X.K C) (hm : Meth X.K C m f) (F : FnOk X.prog X.w X.K X.mg X.base CX k f fd ps sp) (hr : Room k X.A) (hb : Binds X.K fd ps ds) (hd : Vals dvs ds) (hx : Passes CX X E)
    (ht : eval (.Call (.Attribute o m apos) [] [] pos) X.env = (do
      let ov ← eval o X.env
      standAt apos.atName
      let (f, first) ← holding [ov] (getMethod ov m pl)
      callWith pos f first (backTo pos (starEach [] X.env)) (backToKw pos (keywordEach [] X.env))) := by rfl) :
    PE X (.Call (.Attribute o m apos) [] [] pos) (tMeth C m sp dvs E ta tNil) := by
  intro pins s σ H Q I h
  refine PySem.W.methodCall_KW (pl := pl) (thn (he pins s σ H _ I h) fun u s1 ⟨x, H1, I1, rx, a, dx, fs, ex, ea, l, q⟩ => ?_) ht
  subst ex
  obtain rfl : u = Value.ref a := rx
  refine getmeth_ok I1 ea c hm l ?_
  exact PySem.W.callWith_K0 (first := [.ref a]) I1.kIn hm.kp (run_fn (us := [.ref a]) (vs := [.ref a]) F hr hb hd hx I1 (.cons rfl .nil) q)

/-- what a class must have to be made -/
structure Mk (K : PySem.W.Frag) (C f : Addr) : Prop where
  makes : PySem.W.makesIn K C = true
  init : PySem.W.findIn K (.ref C) "__init__" = some (some (.ref f))
  fn : PySem.W.isFn K (.ref f) = true
  kp : PySem.W.keepIn K (.ref C) = true

theorem run_make {pins : List (Addr × Obj)} {σ : St} {H : Hp} {s : Shared} {Q : VK} {us : List Value} {vs : List V} (M : Mk X.K C f) (F : FnOk X.prog X.w X.K X.mg X.base CX k f fd ps sp) (hr : Room (k + 1) X.A) (hb : Binds X.K fd ps ds) (hd : Vals dvs ds)
    (hx : Passes CX X E) (I : Inv X pins σ H s) (r : Vals vs us)
    (h : ∀ x dx, H x = none → H dx = none → dx ≠ x → sp (.ref x :: (vs ++ dvs)) (upd (upd H dx (.own x)) x (.ins C dx [])) (fun v H2 => v = .non ∧ Q (.ref x) H2) E) :
    wpAny (model X.prog X.w) X.A (call (.ref C) us) (EP X pins σ Q) X.xe s := by
  have hq := h (s.heap.objs.size + 1) s.heap.objs.size (I.hok.fresh (Nat.le_succ _)) (I.hok.fresh (Nat.le_refl _)) (Nat.ne_of_lt (Nat.lt_succ_self _))
  have I2 := Inv.made (C := C) I
  have r2 : Vals (V.ref (s.heap.objs.size + 1) :: (vs ++ dvs)) (Value.ref (s.heap.objs.size + 1) :: (us ++ ds)) := .cons rfl (r.append hd)
  have hl : (Value.ref (s.heap.objs.size + 1) :: us ++ ds).length = ps.length := by
    have e := r2.length
    rw [F.len _ _ _ _ hq] at e
    exact e.symm
  refine wpAny_call (make_map (f := f) I.kIn M.makes M.init (beq_iff_eq.mp M.fn) (codeAny_mono (F.run _ X.stack _ _ ⟨Value.ref (s.heap.objs.size + 1) :: us, []⟩ (Value.ref (s.heap.objs.size + 1) :: (us ++ ds)) _ _ E (hr.make C us [])
    (I2.env0.make C us []) (hb _ (Value.ref (s.heap.objs.size + 1) :: us) I2.kIn hl) r2 hq) fun r s' hq' => ?_))
  cases r with
  | error e => exact hx pins σ _ _ e s' I2 hq'
  | ok fl =>
    cases fl with
    | ret u =>
      obtain ⟨v, H', I3, rv, ev, q3⟩ := I2.after hq'
      subst ev
      exact ⟨rv, ⟨V.ref (s.heap.objs.size + 1), H', I3, rfl, q3⟩⟩
    | next => exact False.elim hq'
    | brk => exact False.elim hq'
    | cont => exact False.elim hq'
theorem pe_make (M : Mk X.K C f) (F : FnOk X.prog X.w X.K X.mg X.base CX k f fd ps sp) (hr : Room (k + 1) X.A) (hg : Gl X x) (hm : X.mg x = some (.ref C)) (hb : Binds X.K fd ps ds) (hd : Vals dvs ds) (hx : Passes CX X E)
    (ha : PA X (e :: es) t) (hdb : (x == ("__debug__" : Str)) = false := by decide) (he : starEach (e :: es) X.env = (false, eval e X.env) :: starEach es X.env := by rfl) (hpl : (backTo pos (starEach es X.env)).any (·.1) = false := by rfl) :
    PE X (.Call (.Name x p) (e :: es) [] pos) (tMake C sp dvs E t) := by
  intro pins s σ H Q I h
  refine wpAny_Call_Name_kw (ld_glob I hg hm ?_ hdb)
  refine PySem.W.callWith_K (h₀ := X.base) I.ok.mod.kin M.kp (thn (ha pos pins s σ H _ I h) fun us s1 ⟨vs, H1, I1, r, q⟩ => ⟨I1.kIn, ?_⟩) he hpl
  exact run_make M F hr hb hd hx I1 r q
theorem pe_make0 (M : Mk X.K C f) (F : FnOk X.prog X.w X.K X.mg X.base CX k f fd ps sp) (hr : Room (k + 1) X.A) (hg : Gl X x) (hm : X.mg x = some (.ref C)) (hb : Binds X.K fd ps ds) (hd : Vals dvs ds) (hx : Passes CX X E)
    (hdb : (x == ("__debug__" : Str)) = false := by decide) : PE X (.Call (.Name x p) [] [] pos) (tMake C sp dvs E tNil) := by
  intro pins s σ H Q I h
  refine wpAny_Call_Name_kw (ld_glob I hg hm ?_ hdb)
  exact PySem.W.callWith_K0 I.kIn M.kp (run_make (us := []) M F hr hb hd hx I .nil h)
end

/-! ### keywords -/
/-- the values of the keywords, from the left -/
def PK (X : Cx) (kws : List Keyword) (t : TA) : Prop :=
  ∀ (pos : Pos) (pins : List (Addr × Obj)) (s : Shared) (σ : St) (H : Hp) (Q : List V → Hp → Prop), Inv X pins σ H s → t σ H Q → wpAny (model X.prog X.w) X.A (evalAll ((backToKw pos (keywordEach kws X.env)).map (·.2))) (AP X pins σ Q) X.xe s
section
variable {X : Cx} {CX : CXT} {k : Nat} {f C : Addr} {fd : FuncData} {ps ks : List Str} {sp : Sp} {E : XK} {x m : Str} {p pos apos kpos : Pos} {e o : Expr} {es : List Expr} {kws : List Keyword} {te ta : TE} {t tk : TA} {nm : Option Str}
theorem pk_nil : PK X [] tNil := fun _ _ _ _ H Q I h => wpAny_evalAll_nil ⟨[], H, I, .nil, h⟩
theorem pk_cons (ha : PE X e te) (hr : PK X kws t) : PK X (⟨nm, e, kpos⟩ :: kws) (tCons te t) := by
  intro pos pins s σ H Q I h
  show wpAny _ _ (evalAll ((do let v ← eval e X.env; standAt pos; pure v) :: (backToKw pos (keywordEach kws X.env)).map (·.2))) _ _ s
  refine wpAny_evalAll_cons (wpAny_bind (thn (ha pins s σ H _ I h) fun u s1 ⟨x, H1, I1, r1, q1⟩ => wpAny_bind (wpAny_standAt (wpAny_pure ?_))))
  exact thn (hr pos pins s1 σ H1 _ I1 q1) fun us s2 ⟨xs, H2, I2, r2, q2⟩ => ⟨x :: xs, H2, I2, .cons r1 r2, q2⟩

/-- how a call with keywords binds: g puts the positional values us and the keywords' values ws (names ks) in the parameters' order, defaults among them -/
structure KBinds (K : PySem.W.Frag) (fd : FuncData) (ps ks : List Str) (g : List Value → List Value → List Value) (gV : List V → List V → List V) : Prop where
  to : ∀ (s : Shared) (us ws : List Value), K.In s.heap → (g us ws).length = ps.length → BindsTo s fd ⟨us, ks.zip ws⟩ (ps.zip (g us ws))
  rel : ∀ {vs : List V} {us : List Value} {zs : List V} {ws : List Value}, Vals vs us → Vals zs ws → Vals (gV vs zs) (g us ws)
def tCallK (sp : Sp) (gV : List V → List V → List V) (E : XK) (t tk : TA) : TE := fun σ H Q => t σ H fun vs H1 => tk σ H1 fun zs H2 => sp (gV vs zs) H2 Q E
variable {g : List Value → List Value → List Value} {gV : List V → List V → List V}
theorem run_fnk {pins : List (Addr × Obj)} {σ : St} {H : Hp} {s : Shared} {Q : VK} {us ws : List Value} {vs zs : List V} (F : FnOk X.prog X.w X.K X.mg X.base CX k f fd ps sp) (hr : Room k X.A) (hb : KBinds X.K fd ps ks g gV) (hx : Passes CX X E)
    (I : Inv X pins σ H s) (r : Vals vs us) (rz : Vals zs ws) (h : sp (gV vs zs) H Q E) : wpAny (model X.prog X.w) X.A (call (.ref f) us (ks.zip ws)) (EP X pins σ Q) X.xe s := by
  have r2 := hb.rel r rz
  have hl : (g us ws).length = ps.length := by rw [← r2.length]; exact F.len _ _ _ _ h
  refine wpAny_call (codeAny_mono (F.run X.A X.stack s H ⟨us, ks.zip ws⟩ (g us ws) (gV vs zs) Q E hr I.env0 (hb.to s us ws I.kIn hl) r2 h) fun r s' hq => ?_)
  cases r with
  | error e => exact hx pins σ H s e s' I hq
  | ok fl =>
    cases fl with
    | ret u => exact I.after hq
    | next => exact False.elim hq
    | brk => exact False.elim hq
    | cont => exact False.elim hq
/-- f(e, .., k = v, ..) -/
theorem pe_callK (F : FnOk X.prog X.w X.K X.mg X.base CX k f fd ps sp) (hr : Room k X.A) (hg : Gl X x) (hm : X.mg x = some (.ref f)) (hk : PySem.W.keepIn X.K (.ref f) = true) (hb : KBinds X.K fd ps ks g gV) (hx : Passes CX X E)
    (ha : PA X (e :: es) t) (hkw : PK X kws tk) (hall : (backToKw pos (keywordEach kws X.env)).all (·.1.isSome) = true := by rfl) (hks : (backToKw pos (keywordEach kws X.env)).filterMap (·.1) = ks := by rfl)
    (hdb : (x == ("__debug__" : Str)) = false := by decide) (he : starEach (e :: es) X.env = (false, eval e X.env) :: starEach es X.env := by rfl)
    (hpl : ((backTo pos (starEach (e :: es) X.env)).any (·.1) || (backToKw pos (keywordEach kws X.env)).any (·.1.isNone)) = false := by rfl) :
    PE X (.Call (.Name x p) (e :: es) kws pos) (tCallK sp gV E t tk) := by
  intro pins s σ H Q I h
  refine wpAny_Call_Name_kw (ld_glob I hg hm ?_ hdb)
  refine PySem.W.callWith_KW (h₀ := X.base) I.ok.mod.kin hk hall (thn (ha pos pins s σ H _ I h) fun us s1 ⟨vs, H1, I1, r, q⟩ => ?_) hpl he
  refine thn (hkw pos pins s1 σ H1 _ I1 q) fun ws s2 ⟨zs, H2, I2, rz, q2⟩ => ⟨I2.kIn, ?_⟩
  rw [hks]
  exact run_fnk F hr hb hx I2 r rz q2
end

/-! ### a def's body keeps its promise -/
/-- names: the parameters first -/
structure FnScope (N P : List Str) (sc : Scope) : Prop where
  kind : sc.kind = .function
  co : sc.isCoroutine = false
  gen : sc.isGenerator = false
  nd : N.Nodup
  pre : N.take P.length = P
  par : ∀ x ∈ P, sc.names.lookup x = some .local ∨ sc.names.lookup x = some .cell
  nofree : ∀ y ∈ sc.names, y.2 ≠ .free

theorem bindL_out {kindOf : Str → Option NameKind} {x : Str} : ∀ {binds : List (Str × Value)} {m : Str → Option Value}, (∀ v, (x, v) ∉ binds) → bindL kindOf binds m x = m x
  | [], _, _ => rfl
  | (n, v) :: r, m, h => by
    unfold bindL
    rw [bindL_out fun w hw => h w (List.mem_cons_of_mem _ hw)]
    split
    · have : x ≠ n := by rintro rfl; exact h v List.mem_cons_self
      simp [this]
    · rfl
theorem bindC_out {kindOf : Str → Option NameKind} {x : Str} : ∀ {binds : List (Str × Value)} {m : Str → Option Value}, (∀ v, (x, v) ∉ binds) → bindC kindOf binds m x = m x
  | [], _, _ => rfl
  | (n, v) :: r, m, h => by
    unfold bindC
    rw [bindC_out fun w hw => h w (List.mem_cons_of_mem _ hw)]
    split
    · rfl
    · have : x ≠ n := by rintro rfl; exact h v List.mem_cons_self
      simp [this]
theorem bindL_get {kindOf : Str → Option NameKind} {x : Str} {v : Value} : ∀ {P : List Str} {vs : List Value} {i : Nat} {m : Str → Option Value}, P.Nodup → P[i]? = some x → vs[i]? = some v → kindOf x = some .local →
    bindL kindOf (P.zip vs) m x = some v
  | [], _, _, _, _, h, _, _ => by simp at h
  | _ :: _, [], _, _, _, _, h, _ => by simp at h
  | p :: P, w :: vs, 0, m, nd, h1, h2, hk => by
    simp at h1 h2; subst h1; subst h2
    show bindL kindOf ((p, w) :: P.zip vs) m p = _
    unfold bindL
    rw [bindL_out fun v hv => (List.nodup_cons.mp nd).1 (List.of_mem_zip hv).1, if_pos hk]
    simp
  | p :: P, w :: vs, i + 1, m, nd, h1, h2, hk => by
    show bindL kindOf ((p, w) :: P.zip vs) m x = _
    unfold bindL
    exact bindL_get (i := i) (List.nodup_cons.mp nd).2 (by simpa using h1) (by simpa using h2) hk
theorem bindC_get {kindOf : Str → Option NameKind} {x : Str} {v : Value} : ∀ {P : List Str} {vs : List Value} {i : Nat} {m : Str → Option Value}, P.Nodup → P[i]? = some x → vs[i]? = some v → kindOf x ≠ some .local →
    bindC kindOf (P.zip vs) m x = some v
  | [], _, _, _, _, h, _, _ => by simp at h
  | _ :: _, [], _, _, _, _, h, _ => by simp at h
  | p :: P, w :: vs, 0, m, nd, h1, h2, hk => by
    simp at h1 h2; subst h1; subst h2
    show bindC kindOf ((p, w) :: P.zip vs) m p = _
    unfold bindC
    rw [bindC_out fun v hv => (List.nodup_cons.mp nd).1 (List.of_mem_zip hv).1, if_neg hk]
    simp
  | p :: P, w :: vs, i + 1, m, nd, h1, h2, hk => by
    show bindC kindOf ((p, w) :: P.zip vs) m x = _
    unfold bindC
    exact bindC_get (i := i) (List.nodup_cons.mp nd).2 (by simpa using h1) (by simpa using h2) hk

/-- the names' values at the entry -/
def start (N : List Str) (vs : List V) : St := vs.map some ++ List.replicate (N.length - vs.length) none

/-- the context of a def's body, at its entry; an exception leaves the frame, then lies as CX says -/
def cxOf (CX : CXT) (P : Program) (w : World) (K : PySem.W.Frag) (mg : Str → Option Value) (base : Heap) (N : List Str) (qual : Str) (scope : Scope) (f : Addr) (cd : Value) (A : Around) (outer : List Env) (s : Shared) (H : Hp) (E : XK) : Cx where
  prog := P
  w := w
  K := K
  mg := mg
  base := base
  A := A.deeper (envOfC qual scope s.heap.objs.size f cd)
  N := N
  s₀ := s
  H₀ := H
  env := envOfC qual scope s.heap.objs.size f cd
  outer := outer
  stack := envOfC qual scope s.heap.objs.size f cd :: outer
  ex := []
  calm := true
  fn := fun _ => true
  pn := []
  xe := fun e s' => wpAny (model P w) (A.deeper (envOfC qual scope s.heap.objs.size f cd)) (leaving (envOfC qual scope s.heap.objs.size f cd) e) (fun _ s'' => CX outer H s E e s'') (fun e' s'' => CX outer H s E e' s'') s'

theorem cell_has {sc : Scope} {n : Nat} {x : Str} (h : sc.names.lookup x = some .cell) : ∃ c, (cellsFrom n sc.names []).lookup x = some c := by
  have q := PySem.W.cellsFrom_some sc.names n [] (.inl h)
  exact Option.isSome_iff_exists.mp q

theorem inv_start {CX : CXT} {P : Program} {w : World} {K : PySem.W.Frag} {mg : Str → Option Value} {base : Heap} {N ps : List Str} {qual : Str} {scope : Scope} {f : Addr} {cd : Value} {A : Around} {outer : List Env} {s s1 : Shared} {H : Hp} {E : XK} {us : List Value} {vs : List V}
    (S : FnScope N ps scope) (hd : A.handled = none) (e0 : Env0 P w K mg base A outer s H) (hl : vs.length = ps.length) (r : Vals vs us)
    (x : InCallC s s.heap.objs.size (bindL (envOfC qual scope s.heap.objs.size f cd).kindOf (ps.zip us) fun _ => none) (cellsFrom (s.heap.objs.size + 1) scope.names []) (bindC (envOfC qual scope s.heap.objs.size f cd).kindOf (ps.zip us) fun _ => none) s1) :
    Inv (cxOf CX P w K mg base N qual scope f cd A outer s H E) [] (start N vs) H s1 := by
  have hpl : ps.length ≤ N.length := by have := congrArg List.length S.pre; rw [List.length_take] at this; omega
  obtain ⟨h1, tk, rfl, hk⟩ := x.done
  have noA : ∀ b : Addr, b ∉ (cxOf CX P w K mg base N qual scope f cd A outer s H E).ex := fun b z => absurd (show b ∈ ([] : List Addr) from z) (by simp)
  refine ⟨⟨e0.mod, S.kind, rfl, rfl, Nat.le_refl _, fun y z c h1 h2 => ?_, fun y hy => ?_, fun y c _ h => ?_, fun _ => hd, Around.frames_deeper e0.frames, .inr ⟨rfl, rfl⟩, fun b z => absurd z (noA b), e0.bs, e0.bsz, fun b _ _ => noA b, fun b z => absurd z (noA b), e0.funs, e0.frf⟩,
    rfl, e0.bare, Un.kept hk, ⟨_, x.toInCall.ns, fun i y v h1 h2 h3 => ?_⟩, fun y c h => ⟨_, x.cell y c h⟩, e0.hok.fresh (Nat.le_refl _), fun y c h => ?_, fun p hp => absurd (show p ∈ ([] : List (Addr × Obj)) from hp) (by simp), e0.hok.kept hk, ?_⟩
  · exact name_of_addr x.apart (PySem.mem_of_lookup h1) (PySem.mem_of_lookup h2)
  · have hy : scope.names.lookup y = some .cell ∨ scope.names.lookup y = some .free := hy
    rcases hy with hy | hy
    · exact cell_has hy
    · exact absurd rfl (S.nofree _ (PySem.mem_of_lookup hy))
  · exact Nat.le_of_lt (x.above y c (PySem.mem_of_lookup h))
  · have hi : i < vs.length := by
      unfold start at h2
      by_cases hi : i < vs.length
      · exact hi
      · rw [List.getElem?_append_right (by simpa using hi)] at h2
        rw [List.getElem?_replicate] at h2
        split at h2 <;> cases h2
    have ha : vs[i]? = some v := by
      unfold start at h2
      rw [List.getElem?_append_left (by simpa using hi), List.getElem?_map] at h2
      cases e : vs[i]? with
      | none => rw [e] at h2; cases h2
      | some a => rw [e] at h2; cases h2; rfl
    obtain ⟨u, hu, rv⟩ := r.get ha
    have hp : ps[i]? = some y := by
      rw [← S.pre, List.getElem?_take_of_lt (by omega)]; exact h1
    have ndP : ps.Nodup := by rw [← S.pre]; exact S.nd.sublist (List.take_sublist _ _)
    refine ⟨u, rv, ?_⟩
    rcases S.par y (List.mem_of_getElem? hp) with k | k
    · exact .inl ⟨k, bindL_get ndP hp hu k⟩
    · obtain ⟨c, e⟩ := cell_has (n := s.heap.objs.size + 1) k
      refine .inr ⟨.inl k, c, e, ?_⟩
      have q := x.cell y c e
      rw [bindC_get ndP hp hu (by show scope.names.lookup y ≠ _; rw [k]; decide)] at q
      exact q
  · exact e0.hok.fresh (Nat.le_of_lt (x.above y c (PySem.mem_of_lookup h)))
  · unfold start
    show _ = N.length
    rw [List.length_append, List.length_map, List.length_replicate]
    omega

/-- THE RULE: a def (or a method) of the text, by its body. The body's reading t is chosen for each entry; it is run at the parameters' values -/
theorem fn_of {CX : CXT} {P : Program} {w : World} {K : PySem.W.Frag} {mg : Str → Option Value} {base : Heap} {k : Nat} {f : Addr} {name qual : Str} {params : Arguments} {body : List Stmt} {scope : Scope} {dV kV doc pm cdv ct oc : Value} {an od : Option Addr}
    {osl : Array (Option Value)} {N ps : List Str} {sp : Sp} (lk : K.lookup f = some ⟨oc, od, .func (PySem.W.fnOf name qual params body scope dV kV doc pm an cdv ct), osl⟩) (hcd : PySem.W.codeIn K cdv qual = true) (S : FnScope N ps scope)
    (len : ∀ vs H Q E, sp vs H Q E → vs.length = ps.length)
    (hbody : ∀ (A : Around) (outer : List Env) (s : Shared) (H : Hp) (vs : List V) (Q : VK) (E : XK), Room k (A.deeper (envOfC qual scope s.heap.objs.size f cdv)) → sp vs H Q E →
      ∃ t, PSs (cxOf CX P w K mg base N qual scope f cdv A outer s H E) body t ∧ t { nx := fun _ H' => Q .non H', rt := Q } (start N vs) H) :
    FnOk P w K mg base CX (k + 1) f (PySem.W.fnOf name qual params body scope dV kV doc pm an cdv ct) ps sp := by
  refine ⟨len, fun A outer s H args us vs Q E hr e0 hb r hsp => ?_⟩
  have hl := len _ _ _ _ hsp
  have KX : K.In s.heap := e0.mod.kin.keeps fun b o e => (e0.bs b o e).1
  have lim : s.heap.NoLimit := e0.mod.nolimit.keeps fun b o e => (e0.bs b o e).1
  have hkind : ∀ y ∈ ps.zip us, scope.names.lookup y.1 = some .local ∨ (scope.names.lookup y.1 = some .cell ∧ ((cellsFrom (s.heap.objs.size + 1) scope.names []).lookup y.1).isSome = true) := fun ⟨n, v⟩ hy => by
    rcases S.par n (List.of_mem_zip hy).1 with q | q
    · exact .inl q
    · exact .inr ⟨q, PySem.W.cellsFrom_some _ _ _ (.inl q)⟩
  refine codeAny_call_function hr.depth (KX _ _ lk) rfl S.co S.gen rfl (PySem.W.codeRec_of KX hcd) (hb _ _ _ _ ?_)
  refine wpAny_newFunctionEnv_cells S.kind hkind fun env he s1 x => ?_
  subst he
  refine ⟨lim.keeps x.toInCall.keep, codeAny_func ?_⟩
  obtain ⟨t, ht, hq⟩ := hbody A outer s H vs Q E (hr.deeper _) hsp
  have I : Inv (cxOf CX P w K mg base N qual scope f cdv A outer s H E) [] (start N vs) H s1 := inv_start S hr.hd e0 hl r x
  refine wpAny_mono (ht [] s1 (start N vs) H _ I hq) (fun fl s' hs => ?_) fun e s' hs => hs
  have fin : ∀ {σ' : St} {H' : Hp} {v : V} {u : Value}, Inv (cxOf CX P w K mg base N qual scope f cdv A outer s H E) [] σ' H' s' → RelV v u → Q v H' → CE outer P w H s Q u s' :=
    fun {σ' H' v u} J rv q => ⟨v, H', J.os, J.bare, J.base, J.hok, rv, q⟩
  cases fl with
  | ret u =>
    obtain ⟨v, σ', H', J, rv, q⟩ := hs
    exact fin J rv q
  | next =>
    obtain ⟨σ', H', J, q⟩ := hs
    exact fin (v := V.non) (u := Value.none) J rfl q
  | brk =>
    obtain ⟨_, _, _, q⟩ := hs
    exact False.elim q
  | cont =>
    obtain ⟨_, _, _, q⟩ := hs
    exact False.elim q
end L2

namespace L2
open PySem PySem.Spec PyProof.Rows
section
variable {X : Cx} {x : Str} {p pos : Pos} {e : Expr} {es : List Expr} {t : TA} {id T : String} {r : List V → Hp → VK → Prop}

def tCB (r : List V → Hp → VK → Prop) (t : TA) : TE := fun σ H Q => t σ H fun vs H1 => r vs H1 Q
/-- f(e, ..), f a built-in function -/
theorem pe_callB (hc : CallR X (.builtin id) r) (hg : Gl X x) (hm : X.mg x = none) (hv : bootBuiltins x = some (.builtin id)) (ha : PA X (e :: es) t) (hn : x ≠ "__name__" := by decide) (hdb : (x == ("__debug__" : Str)) = false := by decide)
    (he : starEach (e :: es) X.env = (false, eval e X.env) :: starEach es X.env := by rfl) (hpl : (backTo pos (starEach es X.env)).any (·.1) = false := by rfl) : PE X (.Call (.Name x p) (e :: es) [] pos) (tCB r t) := by
  intro pins s σ H Q I h
  refine wpAny_Call_Name_kw (ld_blt I hg hm hv ?_ hn hdb)
  exact PyProof.Rows.callWith_builtin1 (thn (ha pos pins s σ H _ I h) fun us s1 ⟨vs, H1, I1, r1, q1⟩ => hc pins s1 σ H1 vs us Q I1 r1 q1) he hpl
/-- T(e, ..), T a built-in type -/
theorem pe_callTy (hc : CallR X (.type T) r) (hg : Gl X x) (hm : X.mg x = none) (hv : bootBuiltins x = some (.type T)) (ha : PA X (e :: es) t) (hn : x ≠ "__name__" := by decide) (hdb : (x == ("__debug__" : Str)) = false := by decide)
    (he : starEach (e :: es) X.env = (false, eval e X.env) :: starEach es X.env := by rfl) (hpl : (backTo pos (starEach es X.env)).any (·.1) = false := by rfl) : PE X (.Call (.Name x p) (e :: es) [] pos) (tCB r t) := by
  intro pins s σ H Q I h
  refine wpAny_Call_Name_kw (ld_blt I hg hm hv ?_ hn hdb)
  exact PyProof.Rows.callWith_type1 (thn (ha pos pins s σ H _ I h) fun us s1 ⟨vs, H1, I1, r1, q1⟩ => hc pins s1 σ H1 vs us Q I1 r1 q1) he hpl
/-- T() -/
theorem pe_callTy0 (hc : CallR X (.type T) r) (hg : Gl X x) (hm : X.mg x = none) (hv : bootBuiltins x = some (.type T)) (hn : x ≠ "__name__" := by decide) (hdb : (x == ("__debug__" : Str)) = false := by decide) :
    PE X (.Call (.Name x p) [] [] pos) (tCB r tNil) := by
  intro pins s σ H Q I h
  refine wpAny_Call_Name_kw (ld_blt I hg hm hv ?_ hn hdb)
  exact PyProof.Rows.callWith_type0 (hc pins s σ H [] [] Q I .nil h)
end
end L2

namespace HT
open PySem PyProof.Rows

/-- t < u of tuples of ints -/
def lexLt : List Int → List Int → Bool
  | [], [] => false
  | [], _ :: _ => true
  | _ :: _, [] => false
  | x :: xs, y :: ys => if x = y then lexLt xs ys else decide (x < y)
theorem lexLt_cons (x y : Int) (xs ys : List Int) : lexLt (x :: xs) (y :: ys) = if x = y then lexLt xs ys else decide (x < y) := rfl
theorem lexLt_nil_nil : lexLt [] [] = false := rfl
theorem lexLt_nil_cons (y : Int) (ys : List Int) : lexLt [] (y :: ys) = true := rfl
theorem lexLt_cons_nil (x : Int) (xs : List Int) : lexLt (x :: xs) [] = false := rfl

theorem eqAt_int (A : Around) (s : Shared) (a : Int) (t : Tok) (c : Int) (u : Tok) : ∃ e, SeqAt.EqAt A s (.int a t) (.int c u) e ∧ (e = true ↔ a = c) :=
  ⟨(a == c), SeqAt.EqAt.int_int a t c u, by simp⟩
theorem rcLt_int (A : Around) (s : Shared) (a : Int) (t : Tok) (c : Int) (u : Tok) (prog : Program) (w : World) (E : Value → Shared → Prop) (Q : Value → Shared → Prop) (h : Q (.bool (decide (a < c))) s) :
    wpAny (model prog w) A (richCompare .Lt (.int a t) (.int c u)) Q E s :=
  (PyProof.Rows.lt_int h : wpAny (model prog w) A (compareOp .Lt (.int a t) (.int c u)) Q E s)

section
open PySem.SeqAt
open PySem.AutoSeq1 (wpAny_loadPart')
open PySem.MeetsSeq PySem.MeetsSeq2 PySem.MeetsSeq3

theorem tuple_lt_ints (l b : Addr) (items items2 : Array Value) (n n2 : Nat) (dd dd2 : Option Addr) (sl sl2 : Array (Option Value)) (ns ms : List Int) (hi : IntsAre items.toList ns) (hj : IntsAre items2.toList ms) :
    Meets (Builtin.«tuple.__lt__» ⟨[.ref l, .ref b], []⟩)
      (fun _ R s => s.heap.get? l = some { cls := .type "tuple", dict := dd, data := .seq items n, slots := sl } ∧ s.heap.get? b = some { cls := .type "tuple", dict := dd2, data := .seq items2 n2, slots := sl2 } ∧
        R (.ok (.ret (.bool (lexLt ns ms)))) s) :=
  .of_wp fun prog w A R s h => by
    obtain ⟨hp, g, d, tk, os⟩ := s; obtain ⟨hl, hb, h⟩ := h
    have f2 := AutoSeq1.sub_tuple_tuple
    have z1 : items.size = ns.length := by rw [← hi.length]; simp
    have z2 : items2.size = ms.length := by rw [← hj.length]; simp
    wp_walk using wpAny_loadPart' hl, wpAny_loadPart' hb, wpAny_forIn_list _ (fun rest b s' => b.1 = none ∧ s' = ⟨hp, g, d, tk, os⟩ ∧ ∃ (vs ws : List Value) (ns' ms' : List Int), rest = vs.zip ws ∧
      IntsAre vs ns' ∧ IntsAre ws ms' ∧ ns'.length + items2.size = ms'.length + items.size ∧ R (.ok (.ret (.bool (lexLt ns' ms')))) ⟨hp, g, d, tk, os⟩) _
    case turn =>
      rintro ⟨y, x⟩ rest b s' ⟨hb', rfl, vs, ws, ns', ms', hz, hvi, hwi, hlen, hR⟩
      cases hvi with
      | nil => rw [List.zip_nil_left] at hz; cases hz
      | cons a t hvi' =>
        cases hwi with
        | nil => rw [List.zip_nil_right] at hz; cases hz
        | cons c u hwi' =>
          rw [List.zip_cons_cons] at hz
          injection hz with hyx hrest
          injection hyx with hy hx
          subst hy hx
          rw [lexLt_cons] at hR
          simp only [List.length_cons] at hlen
          obtain ⟨e, he, hiff⟩ := eqAt_int A.in1 ⟨hp, g, d, tk, os⟩ a t c u
          refine wpAny_bind (he prog w _ _ ?_)
          cases e with
          | true =>
            rw [if_pos (hiff.mp rfl)] at hR
            wp_walk
            exact ⟨rfl, rfl, _, _, _, _, hrest, hvi', hwi', by omega, hR⟩
          | false =>
            rw [if_neg (fun q => absurd (hiff.mpr q) Bool.false_ne_true)] at hR
            have hri := rcLt_int A.in1 ⟨hp, g, d, tk, os⟩ a t c u prog w
            wp_walk using hri
            exact ⟨_, rfl, by simpa using hR⟩
    case fin =>
      rintro ⟨b1, b2⟩ s' ⟨hb', rfl, vs, ws, ns', ms', hz, hvi, hwi, hlen, hR⟩
      simp only at hb'
      subst hb'
      have hv : lexLt ns' ms' = decide (items.size < items2.size) := by
        cases hvi with
        | nil =>
          cases hwi with
          | nil =>
            simp only [List.length_nil] at hlen
            rw [lexLt_nil_nil]
            exact (decide_eq_false (by omega)).symm
          | cons c u hw =>
            simp only [List.length_nil, List.length_cons] at hlen
            rw [lexLt_nil_cons]
            exact (decide_eq_true (by omega)).symm
        | cons a t hv =>
          cases hwi with
          | nil =>
            simp only [List.length_nil, List.length_cons] at hlen
            rw [lexLt_cons_nil]
            exact (decide_eq_false (by omega)).symm
          | cons c u hw =>
            rw [List.zip_cons_cons] at hz
            cases hz
      rw [hv] at hR
      wp_walk
      exact ⟨_, rfl, by simpa [Builtin.Tuple.tupleCompareSizes] using hR⟩
    case h =>
      exact ⟨rfl, rfl, items.toList, items2.toList, ns, ms, rfl, hi, hj, by omega, h⟩
end

section
variable {prog : Program} {w : World} {A : Around} {E : Value → Shared → Prop} {s : Shared}

theorem lt_tupInts {l b : Addr} {items items2 : Array Value} {ns ms : List Int} {Q : Value → Shared → Prop} (hl : IsTup s.heap l items) (hb : IsTup s.heap b items2) (hi : IntsAre items.toList ns) (hj : IntsAre items2.toList ms)
    (hu : A.units < cLine) (h : Q (.bool (lexLt ns ms)) s) : wpAny (model prog w) A (compareOp .Lt (.ref l) (.ref b)) Q E s := by
  obtain ⟨⟨cls, dd, data, sl⟩, ho, hc, n, hd⟩ := id hl
  obtain ⟨⟨cls2, dd2, data2, sl2⟩, ho2, hc2, n2, hd2⟩ := id hb
  simp only at hc hd hc2 hd2
  subst hc hd hc2 hd2
  exact richCompare_meets_room (op := .Lt) ⟨_, ho, rfl⟩ ⟨_, ho2, rfl⟩ PySem.F.slot_tuple_lt PySem.F.entry_tuple_lt (PySem.F.args_tuple_lt_2 _ _) (tuple_lt_ints l b items items2 n n2 dd dd2 sl sl2 ns ms hi hj)
    ⟨ho, ho2, show Value.bool (lexLt ns ms) ≠ Value.notImplemented ∧ Q (.bool (lexLt ns ms)) s from ⟨(fun x => nomatch x), h⟩⟩ hu

/-- t + u, t not empty -/
theorem cat_tup {t b : Addr} {vs ws : List Value} {Q : Value → Shared → Prop} (ht : IsTup s.heap t vs.toArray) (hb : IsTup s.heap b ws.toArray) (hv : vs ≠ [])
    (h1 : ws = [] → Q (.ref t) s) (h2 : ws ≠ [] → Q (.ref s.heap.objs.size) { s with heap := s.heap.push { cls := .type "tuple", data := .seq (vs ++ ws).toArray } })
    (hsz : vs.length + ws.length ≤ sizeLine) : wpAny (model prog w) A (binaryOp .Add (.ref t) (.ref b)) Q E s := by
  obtain ⟨⟨cls, dd, data, sl⟩, ho, hc, n, hd⟩ := id ht
  obtain ⟨⟨cls2, dd2, data2, sl2⟩, ho2, hc2, n2, hd2⟩ := id hb
  simp only at hc hd hc2 hd2
  subst hc hd hc2 hd2
  have e : vs.toArray ++ ws.toArray = (vs ++ ws).toArray := by simp
  by_cases hw : ws = []
  · exact concat_meets ⟨_, ho, rfl⟩ ⟨_, ho2, rfl⟩ noFill_tuple_add seq_tuple_add PySem.F.slot_tuple_add PySem.F.entry_tuple_add (PySem.F.args_tuple_add_2 _ _)
      (tuple_addW1 t b vs.toArray ws.toArray n n2 dd dd2 sl sl2 (by simpa using hv) (by simp [hw])) ⟨ho, ho2, h1 hw⟩
  · refine concat_meets ⟨_, ho, rfl⟩ ⟨_, ho2, rfl⟩ noFill_tuple_add seq_tuple_add PySem.F.slot_tuple_add PySem.F.entry_tuple_add (PySem.F.args_tuple_add_2 _ _)
      (tuple_addW2 t b vs.toArray ws.toArray n n2 dd dd2 sl sl2 (by simpa using hv) (by simpa using hw) (by rw [List.size_toArray, List.size_toArray]; exact hsz)) ⟨ho, ho2, ?_⟩
    rw [e]
    exact h2 hw

/-! ### t[a:b], not the whole -/
/-- a slice's bound as a place among n (d where it is left out) -/
def sIx (n d : Nat) : Option Int → Nat
  | none => d
  | some v => if v < 0 then (v + (n : Int)).toNat else min v.toNat n
theorem sIx_none (n d : Nat) : sIx n d none = d := rfl
theorem sIx_nat (n d k : Nat) : sIx n d (some (k : Int)) = min k n := by
  show (if (k : Int) < 0 then ((k : Int) + (n : Int)).toNat else min (k : Int).toNat n) = min k n
  rw [if_neg (by omega), Int.toNat_natCast]
theorem sIx_le (n d : Nat) (hd : d ≤ n) (o : Option Int) : sIx n d o ≤ n := by
  cases o with
  | none => exact hd
  | some v =>
    show (if v < 0 then (v + (n : Int)).toNat else min v.toNat n) ≤ n
    by_cases hv : v < 0
    · rw [if_pos hv]; omega
    · rw [if_neg hv]; exact Nat.min_le_right _ _
theorem clip_eq (v : Int) (n d : Nat) : (if v < 0 then max (v + (n : Int)) 0 else min v (n : Int)) = ((sIx n d (some v) : Nat) : Int) := by
  show (if v < 0 then max (v + (n : Int)) 0 else min v (n : Int)) = (((if v < 0 then (v + (n : Int)).toNat else min v.toNat n) : Nat) : Int)
  by_cases hv : v < 0
  · simp only [if_pos hv]; omega
  · simp only [if_neg hv]; omega
theorem adjust_gen (lo hi : Option Int) (n : Nat) : Builtin.Slice.sliceAdjust lo hi 1 (n : Int) = (((sIx n 0 lo : Nat) : Int), ((sIx n n hi : Nat) : Int)) := by
  have h1 : ¬ ((1 : Int) < 0) := by omega
  unfold Builtin.Slice.sliceAdjust
  simp only [h1, if_false]
  refine Prod.ext ?_ ?_
  · cases lo with
    | none => rfl
    | some v => exact clip_eq v n 0
  · cases hi with
    | none => rfl
    | some v => exact clip_eq v n n
theorem places_gen (i j : Nat) : Builtin.Slice.slicePlaces (i : Int) (j : Int) 1 = j - i := by
  unfold Builtin.Slice.slicePlaces
  have h1 : (1 : Int) > 0 := by omega
  simp only [h1, if_true, Int.ediv_one]
  split <;> omega
theorem slicePart_ {v : Value} {o : Option Int} {Q : Option Int → Shared → Prop} (p : IsPart v o) (h : Q o s) : wpAny (model prog w) A (Builtin.Slice.slicePartIndex v) Q E s := by
  cases p with
  | none => exact slicePart_none h
  | int i t => exact slicePart_int h
theorem sliceApplied_gen {sl : Addr} {vl vu : Value} {lo hi : Option Int} {n : Nat} {Q : Int × Int × Nat → Shared → Prop} (hs : s.heap.IsSliceOf sl vl vu .none) (pl : IsPart vl lo) (pu : IsPart vu hi)
    (h : Q (((sIx n 0 lo : Nat) : Int), 1, sIx n n hi - sIx n 0 lo) s) : wpAny (model prog w) A (Builtin.Slice.sliceApplied (.ref sl) (pure (n : Int))) Q E s := by
  obtain ⟨os, hos, hcs, hds⟩ := id hs
  unfold Builtin.Slice.sliceApplied Builtin.Slice.sliceFields
  refine wpAny_bind (wpAny_bind (wpAny_field hos hds (x := vl) rfl (wpAny_bind (wpAny_field hos hds (x := vu) rfl (wpAny_bind (wpAny_field hos hds (x := .none) rfl (wpAny_pure ?_)))))))
  refine wpAny_bind (slicePart_none ?_)
  show wpAny _ _ (if ((1 : Int) == 0) = true then _ else _) _ _ s
  rw [if_neg (by decide)]
  refine wpAny_bind (slicePart_ pl (wpAny_bind (slicePart_ pu (wpAny_bind (wpAny_pure ?_)))))
  show wpAny _ _ (match Builtin.Slice.sliceAdjust lo hi 1 (n : Int) with | (lo, hi) => pure (lo, (1 : Int), Builtin.Slice.slicePlaces lo hi 1)) _ _ s
  rw [adjust_gen lo hi n]
  show wpAny _ _ (pure (((sIx n 0 lo : Nat) : Int), (1 : Int), Builtin.Slice.slicePlaces ((sIx n 0 lo : Nat) : Int) ((sIx n n hi : Nat) : Int) 1)) _ _ s
  rw [places_gen]
  exact wpAny_pure h
theorem pick_gen (xs : Array Value) (i k : Nat) : ((List.range k).filterMap fun (m : Nat) => xs[((i : Int) + (m : Int) * 1).toNat]?).toArray = ((xs.toList.drop i).take k).toArray := by
  have e : (fun (m : Nat) => xs[((i : Int) + (m : Int) * 1).toNat]?) = fun m => xs[i + m]? := by
    funext m
    have : ((i : Int) + (m : Int) * 1).toNat = i + m := by omega
    rw [this]
  rw [e]
  have := pick_run xs i k
  rw [List.filterMap_map] at this
  have e2 : ((fun x => xs[x]?) ∘ fun x => i + x) = fun m => xs[i + m]? := rfl
  rw [e2] at this
  rw [this]

theorem getItem_tuple_cut {t sl : Addr} {items : Array Value} {vl vu : Value} {lo hi : Option Int} {Q : Value → Shared → Prop} (ht : IsTup s.heap t items) (hs : s.heap.IsSliceOf sl vl vu .none) (pl : IsPart vl lo) (pu : IsPart vu hi)
    (hw : ¬ (sIx items.size 0 lo = 0 ∧ sIx items.size items.size hi = items.size))
    (h : Q (.ref s.heap.objs.size) { s with heap := s.heap.push { cls := .type "tuple", data := .seq ((items.toList.drop (sIx items.size 0 lo)).take (sIx items.size items.size hi - sIx items.size 0 lo)).toArray } })
    (hsz : items.size ≤ sizeLine) : wpAny (model prog w) A (getItem (.ref t) (.ref sl)) Q E s := by
  have htake : sizeOk (.seq ((items.toList.drop (sIx items.size 0 lo)).take (sIx items.size items.size hi - sIx items.size 0 lo)).toArray) := by
    show ((items.toList.drop (sIx items.size 0 lo)).take (sIx items.size items.size hi - sIx items.size 0 lo)).toArray.size ≤ sizeLine
    rw [List.size_toArray, List.length_take, List.length_drop, Array.length_toList]
    omega
  have hj : sIx items.size items.size hi ≤ items.size := sIx_le _ _ (Nat.le_refl _) hi
  obtain ⟨os, hos, hcs, hds⟩ := id hs
  have hTs : s.TypeIs (.ref sl) "slice" := ⟨os, hos, hcs⟩
  unfold getItem
  try with_reducible refine wpAny_holding ?_
  first | refine wpAny_bind (wpAny_pure ?_) | skip
  refine wpAny_bind (wpAny_sequenceKey ht.typeIs (by decide) ?_)
  refine wpAny_bind (wpAny_callSpecial?_slot (name := Str.ofString "__getitem__") ht.typeIs PyProof.Rows.slot_tuple_getitem
    (wpAny_call_entry PyProof.Rows.slot_tuple_getitem ht.typeIs entry_tuple_getitem ?_ (args_tuple_getitem _ _)))
  show wpAny _ _ (Builtin.Tuple.tupleItemsOf (.ref t) >>= _) _ _ s
  refine wpAny_bind (tupleItemsOf_ ht ?_)
  refine wpAny_bind (wpAny_typeOf hTs ?_)
  rw [if_pos (by decide)]
  refine wpAny_bind (sliceApplied_gen hs pl pu ?_)
  have hno : ¬ ((((sIx items.size 0 lo : Nat) : Int) == 0 && (1 : Int) == 1 && (sIx items.size items.size hi - sIx items.size 0 lo) == items.size) = true) := by
    intro q
    rw [Bool.and_eq_true, Bool.and_eq_true] at q
    have q1 : ((sIx items.size 0 lo : Nat) : Int) = 0 := eq_of_beq q.1.1
    have q2 : sIx items.size items.size hi - sIx items.size 0 lo = items.size := eq_of_beq q.2
    exact hw ⟨by omega, by omega⟩
  show wpAny _ _ (if (((sIx items.size 0 lo : Nat) : Int) == 0 && (1 : Int) == 1 && (sIx items.size items.size hi - sIx items.size 0 lo) == items.size) = true then _ else _) _ _ s
  rw [if_neg hno, pick_gen]
  first
    | exact wpAny_bind (m := Builtin.Tuple.tupleExact _) (wpAny_newObj_type (wpAny_pure ⟨_, rfl, wpAny_pure h⟩) htake)
    | exact wpAny_bind (m := Builtin.Tuple.tupleExact _) (wpAny_newObj_type (wpAny_bind (wpAny_pure (wpAny_pure ⟨_, rfl, wpAny_pure h⟩))) htake)
    | exact wpAny_bind (wpAny_bind (m := Builtin.Tuple.tupleExact _) (wpAny_newObj_type (wpAny_pure (wpAny_pure ⟨_, rfl, wpAny_pure h⟩)) htake))
    | exact wpAny_bind (wpAny_bind (m := Builtin.Tuple.tupleExact _) (wpAny_newObj_type (wpAny_pure ⟨_, rfl, wpAny_pure h⟩) htake))
end
end HT

namespace L2
open PySem PySem.Spec PyProof.Rows

/-! ### the parts of a slice -/
abbrev TO := St → Hp → (Option Int → Hp → Prop) → Prop
/-- a slice's part (left out, or an int) -/
def PO (X : Cx) (e : Option Expr) (t : TO) : Prop :=
  ∀ (pins : List (Addr × Obj)) (s : Shared) (σ : St) (H : Hp) (Q : Option Int → Hp → Prop), Inv X pins σ H s → t σ H Q →
    wpAny (model X.prog X.w) X.A (evalPart e X.env) (fun u s' => ∃ o H', Inv X pins σ H' s' ∧ IsPart u o ∧ Q o H') X.xe s
def tNoPart : TO := fun _ H Q => Q none H
def tPart (t : TE) : TO := fun σ H Q => t σ H fun x H1 => ∃ i, x = .int i ∧ Q (some i) H1

theorem intsAre_of {ns : List Int} : ∀ {us : List Value}, Vals (ns.map V.int) us → IntsAre us ns := by
  induction ns with
  | nil => intro us r; rw [List.map_nil] at r; cases r; exact .nil
  | cons n ns ih =>
    intro us r
    rw [List.map_cons] at r
    cases r with
    | cons r1 r2 =>
      obtain ⟨t, e⟩ := r1
      subst e
      exact .cons n t (ih r2)

section
variable {X : Cx} {e : Expr} {te : TE} {lo hi : Option Expr} {tl th : TO} {pos p2 : Pos}

theorem po_none : PO X none tNoPart := by
  intro pins s σ H Q I h
  rw [evalPart_none]
  exact wpAny_pure ⟨none, H, I, .none, h⟩
theorem po_some (h : PE X e te) : PO X (some e) (tPart te) := by
  intro pins s σ H Q I hw
  rw [evalPart_some]
  refine thn (h pins s σ H _ I hw) fun u s1 ⟨x, H1, I1, r1, q1⟩ => ?_
  obtain ⟨i, rfl, q⟩ := q1
  obtain ⟨t, rfl⟩ := r1
  exact ⟨some i, H1, I1, .int i t, q⟩

/-- what a slice of a value is, by values: the slice object stands at sl -/
def SlR (X : Cx) (r : V → Option Int → Option Int → Hp → VK → Prop) : Prop :=
  ∀ (pins : List (Addr × Obj)) (s : Shared) (σ : St) (H : Hp) (x : V) (v vl vu : Value) (lo hi : Option Int) (sl : Addr) (Q : VK), Inv X pins σ H s → RelV x v → s.heap.IsSliceOf sl vl vu .none → IsPart vl lo → IsPart vu hi → r x lo hi H Q →
    ∃ T id, typeLookup (.type T) "__getitem__" = pure (some (.builtin id)) ∧ s.TypeIs v T ∧ wpAny (model X.prog X.w) X.A (getItem v (.ref sl)) (EP X pins σ Q) X.xe s
theorem SlR.or {r r' : V → Option Int → Option Int → Hp → VK → Prop} (h : SlR X r) (h' : SlR X r') : SlR X (fun x lo hi H Q => r x lo hi H Q ∨ r' x lo hi H Q) := by
  intro pins s σ H x v vl vu lo hi sl Q I rx hs pl pu q
  rcases q with q | q
  · exact h pins s σ H x v vl vu lo hi sl Q I rx hs pl pu q
  · exact h' pins s σ H x v vl vu lo hi sl Q I rx hs pl pu q
def tSl (r : V → Option Int → Option Int → Hp → VK → Prop) (te : TE) (tl th : TO) : TE := fun σ H Q => te σ H fun x H1 => tl σ H1 fun l H2 => th σ H2 fun u H3 => r x l u H3 Q
/-- a[lo:hi], any a -/
theorem pe_slice {r : V → Option Int → Option Int → Hp → VK → Prop} (hr : SlR X r) (he : PE X e te) (hl : PO X lo tl) (hu : PO X hi th) : PE X (.Subscript e (.Slice lo hi none p2) pos) (tSl r te tl th) := by
  intro pins s σ H Q I h
  refine Subscript_ (thn (he pins s σ H _ I h) fun v s1 ⟨x, H1, I1, r1, q1⟩ => ?_)
  refine wpAny_Slice (thn (hl pins s1 σ H1 _ I1 q1) fun vl s2 ⟨l, H2, I2, pl, q2⟩ => thn (hu pins s2 σ H2 _ I2 q2) fun vu s3 ⟨u, H3, I3, pu, q3⟩ => ?_)
  rw [evalPart_none]
  refine wpAny_pure ?_
  have I4 : Inv X pins σ H3 { s3 with heap := s3.heap.push { cls := .type "slice", data := .fields #[vl, vu, .none] } } := I3.kept (t' := s3.toks) fun b ob q => Heap.get?_push_of_some _ q
  obtain ⟨T, id, hT, ht, hg⟩ := hr pins { s3 with heap := s3.heap.push { cls := .type "slice", data := .fields #[vl, vu, .none] } } σ H3 x v vl vu l u s3.heap.objs.size Q I4 r1 (Heap.IsSliceOf.new ..) pl pu q3
  show wpAny (model X.prog X.w) X.A (subscriptTail e (.Slice lo hi none p2) v (.ref s3.heap.objs.size)) (EP X pins σ Q) X.xe { s3 with heap := s3.heap.push { cls := .type "slice", data := .fields #[vl, vu, .none] } }
  exact tail_any (ops := [.ref s3.heap.objs.size, v]) ht hT hg (by with_unfolding_all rfl)

/-- the items of xs[lo:hi] -/
def cutV (xs : List V) (lo hi : Option Int) : List V := (xs.drop (HT.sIx xs.length 0 lo)).take (HT.sIx xs.length xs.length hi - HT.sIx xs.length 0 lo)
theorem cutV_length (xs : List V) (lo hi : Option Int) : (cutV xs lo hi).length ≤ xs.length := by
  unfold cutV
  rw [List.length_take, List.length_drop]
  omega
/-- t[lo:hi], not the whole of it (the whole would be t itself) -/
def rSlT (K : PySem.W.Frag) : V → Option Int → Option Int → Hp → VK → Prop := fun x lo hi H Q => ∃ a xs, x = .ref a ∧ SqT K H a xs ∧
  ¬ (HT.sIx xs.length 0 lo = 0 ∧ HT.sIx xs.length xs.length hi = xs.length) ∧ ∀ p, H p = none → Q (.ref p) (upd H p (.tup (cutV xs lo hi)))
theorem sl_tup : SlR X (rSlT X.K) := by
  intro pins s σ H x v vl vu lo hi sl Q I rx hs pl pu h
  obtain ⟨a, xs, rfl, hx, hw, q⟩ := h
  cases rx
  obtain ⟨its, r, ht, hz⟩ := I.tuple hx
  have hlen : its.toArray.size = xs.length := by rw [List.size_toArray]; exact r.length.symm
  refine ⟨"tuple", _, PyProof.Rows.slot_tuple_getitem.lookup, ht.typeIs, ?_⟩
  refine HT.getItem_tuple_cut ht hs pl pu (by rw [hlen]; exact hw) ?_ (by rw [hlen]; exact hz)
  rw [hlen]
  refine ⟨.ref s.heap.objs.size, _, I.laid (t' := s.toks) (o := .tup (cutV xs lo hi)) (fun b ob q => Heap.get?_push_of_some _ q) (Nat.le_refl _) ?_, rfl, q _ (I.hok.fresh (Nat.le_refl _))⟩
  exact ⟨Nat.le_trans (cutV_length xs lo hi) hz, _, (r.drop (HT.sIx xs.length 0 lo)).take (HT.sIx xs.length xs.length hi - HT.sIx xs.length 0 lo), IsTup.new _ _⟩

/-! ### t < u, t + u -/
def rLtT (K : PySem.W.Frag) : R2 := fun x y H Q => ∃ a b ns ms, x = .ref a ∧ y = .ref b ∧ SqT K H a (ns.map V.int) ∧ SqT K H b (ms.map V.int) ∧ Q (.bl (HT.lexLt ns ms)) H
theorem op_ltT (hu : X.A.units < cLine) : OpR X (compareOp .Lt) (rLtT X.K) := by
  intro pins s σ H x y v u Q I rx ry h
  obtain ⟨a, b, ns, ms, rfl, rfl, ha, hb, q⟩ := h
  cases rx
  cases ry
  obtain ⟨its, r1, p1, _⟩ := I.tuple ha
  obtain ⟨its2, r2, p2, _⟩ := I.tuple hb
  have i1 : IntsAre its.toArray.toList ns := intsAre_of r1
  have i2 : IntsAre its2.toArray.toList ms := intsAre_of r2
  exact HT.lt_tupInts p1 p2 i1 i2 hu ⟨.bl (HT.lexLt ns ms), H, I, rfl, q⟩
/-- t + u, t not empty: u empty gives t itself -/
def rCatT (K : PySem.W.Frag) : R2 := fun x y H Q => ∃ a b xs ys, x = .ref a ∧ y = .ref b ∧ SqT K H a xs ∧ SqT K H b ys ∧ xs ≠ [] ∧ xs.length + ys.length ≤ sizeLine ∧
  (ys = [] → Q (.ref a) H) ∧ (ys ≠ [] → ∀ p, H p = none → Q (.ref p) (upd H p (.tup (xs ++ ys))))
theorem Vals.nil_iff {xs : List V} {us : List Value} (r : Vals xs us) : us = [] ↔ xs = [] := by
  cases r with
  | nil => simp
  | cons _ _ => simp
theorem op_catT : OpR X (binaryOp .Add) (rCatT X.K) := by
  intro pins s σ H x y v u Q I rx ry h
  obtain ⟨a, b, xs, ys, rfl, rfl, ha, hb, hx, hz, q1, q2⟩ := h
  cases rx
  cases ry
  obtain ⟨its, r1, p1, _⟩ := I.tuple ha
  obtain ⟨its2, r2, p2, _⟩ := I.tuple hb
  refine HT.cat_tup p1 p2 (fun z => hx (r1.nil_iff.mp z)) (fun z => ⟨.ref a, H, I, rfl, q1 (r2.nil_iff.mp z)⟩) (fun z => ?_) (by rw [← r1.length, ← r2.length]; exact hz)
  refine ⟨.ref s.heap.objs.size, _, I.laid (t' := s.toks) (o := .tup (xs ++ ys)) (fun b ob q => Heap.get?_push_of_some _ q) (Nat.le_refl _) ?_, rfl, q2 (fun w => z (r2.nil_iff.mpr w)) _ (I.hok.fresh (Nat.le_refl _))⟩
  exact ⟨by rw [List.length_append]; exact hz, _, r1.append r2, IsTup.new _ _⟩
/-- tuple(t) -/
theorem call_tupleT : CallR X (.type "tuple") (fun xs H Q => ∃ a ys, xs = [.ref a] ∧ SqT X.K H a ys ∧ Q (.ref a) H) := by
  intro pins s σ H xs us Q I r h
  obtain ⟨a, ys, rfl, ha, q⟩ := h
  obtain ⟨u, rfl, ru⟩ := vals1 r
  cases ru
  obtain ⟨its, _, p1, _⟩ := I.tuple ha
  exact call_tuple_same (items := its.toArray) p1 ⟨.ref a, H, I, rfl, q⟩
end
end L2

namespace L2
open PySem PySem.Spec PyProof.Rows

/-! ### places -/
/-- the place that an index of any sign means -/
def ixN (n : Nat) (i : Int) : Option Nat := if 0 ≤ i then (if i < n then some i.toNat else none) else if -(n : Int) ≤ i then some (i + n).toNat else none
def atI {α : Type} (xs : List α) (i : Int) : Option α := (ixN xs.length i).bind fun j => xs[j]?
theorem ixN_seq {n : Nat} {i : Int} {j : Nat} (h : ixN n i = some j) : seqIndex? i n = some j ∧ j < n ∧ -(n : Int) ≤ i ∧ i < n := by
  unfold ixN at h
  by_cases h0 : 0 ≤ i
  · rw [if_pos h0] at h
    by_cases h1 : i < n
    · rw [if_pos h1] at h
      have e : i.toNat = j := Option.some.inj h
      exact ⟨by rw [seqIndex_of h0 h1, e], by omega, by omega, h1⟩
    · rw [if_neg h1] at h; cases h
  · rw [if_neg h0] at h
    by_cases h1 : -(n : Int) ≤ i
    · rw [if_pos h1] at h
      have e : (i + n).toNat = j := Option.some.inj h
      exact ⟨by rw [seqIndex_neg (by omega) h1, e], by omega, h1, by omega⟩
    · rw [if_neg h1] at h; cases h
theorem atI_get {α : Type} {xs : List α} {i : Int} {v : α} (h : atI xs i = some v) : ∃ j, seqIndex? i xs.length = some j ∧ xs[j]? = some v ∧ j < xs.length ∧ -(xs.length : Int) ≤ i ∧ i < xs.length := by
  unfold atI at h
  cases e : ixN xs.length i with
  | none => rw [e] at h; cases h
  | some j =>
    rw [e] at h
    obtain ⟨h1, h2, h3, h4⟩ := ixN_seq e
    exact ⟨j, h1, h, h2, h3, h4⟩
theorem atI_nat {α : Type} {xs : List α} {j : Nat} {v : α} (h : xs[j]? = some v) : atI xs (j : Int) = some v := by
  have hj : j < xs.length := (List.getElem?_eq_some_iff.mp h).1
  have e : ixN xs.length (j : Int) = some j := by
    unfold ixN
    rw [if_pos (by omega), if_pos (by omega)]; simp
  unfold atI; rw [e]; exact h
theorem atI_last {α : Type} (xs : List α) (v : α) : atI (xs ++ [v]) (-1) = some v := by
  have hl : (xs ++ [v]).length = xs.length + 1 := by simp
  have e : ixN (xs ++ [v]).length (-1) = some xs.length := by
    unfold ixN
    rw [hl, if_neg (by decide), if_pos (by omega)]
    congr 1
    omega
  unfold atI
  rw [e]
  show (xs ++ [v])[xs.length]? = some v
  simp

/-! ### what may be subscripted -/
/-- what stands as an index of a plain subscript -/
def PlainIx (b : Expr) : Prop := ∀ o i, subscripted b false o i = operate [o, i] (getItem o i)
/-- a subscript by values -/
def IxR (X : Cx) (r : R2) : Prop :=
  ∀ (value slice : Expr) (pins : List (Addr × Obj)) (s : Shared) (σ : St) (H : Hp) (x y : V) (v u : Value) (Q : VK), Inv X pins σ H s → RelV x v → RelV y u → r x y H Q →
    subscripted slice false v u = operate [v, u] (getItem v u) → wpAny (model X.prog X.w) X.A (subscriptTail value slice v u) (EP X pins σ Q) X.xe s
/-- a call of a builtin's method by values: the receiver, the arguments -/
def MtR (X : Cx) (id : String) (r : V → List V → Hp → VK → Prop) : Prop :=
  ∀ (pins : List (Addr × Obj)) (s : Shared) (σ : St) (H : Hp) (x : V) (xs : List V) (v : Value) (us : List Value) (Q : VK), Inv X pins σ H s → RelV x v → Vals xs us → r x xs H Q →
    wpAny (model X.prog X.w) X.A (call (.builtin id) (v :: us)) (EP X pins σ Q) X.xe s
section
variable {X : Cx} {a b : Expr} {ta tb : TE} {pos : Pos}
theorem IxR.or {r r' : R2} (h : IxR X r) (h' : IxR X r') : IxR X (fun x y H Q => r x y H Q ∨ r' x y H Q) := by
  intro value slice pins s σ H x y v u Q I rx ry q hs
  rcases q with q | q
  · exact h value slice pins s σ H x y v u Q I rx ry q hs
  · exact h' value slice pins s σ H x y v u Q I rx ry q hs
theorem MtR.or {id : String} {r r' : V → List V → Hp → VK → Prop} (h : MtR X id r) (h' : MtR X id r') : MtR X id (fun x xs H Q => r x xs H Q ∨ r' x xs H Q) := by
  intro pins s σ H x xs v us Q I rx rs q
  rcases q with q | q
  · exact h pins s σ H x xs v us Q I rx rs q
  · exact h' pins s σ H x xs v us Q I rx rs q
/-- a[b] -/
theorem pe_ix {r : R2} (hr : IxR X r) (ha : PE X a ta) (hb : PE X b tb) (hs : PlainIx b) : PE X (.Subscript a b pos) (tOp r ta tb) := by
  intro pins s σ H Q I h
  exact Subscript_ (binT ha hb I h fun v u s2 x y H2 I2 rx ry q => hr a b pins s2 σ H2 x y v u Q I2 rx ry q (hs _ _))

def rIxL (K : PySem.W.Frag) : R2 := fun x y H Q => ∃ p xs i v, x = .ref p ∧ y = .int i ∧ SqL K H p xs ∧ atI xs i = some v ∧ Q v H
def rIxT (K : PySem.W.Frag) : R2 := fun x y H Q => ∃ p xs i v, x = .ref p ∧ y = .int i ∧ SqT K H p xs ∧ atI xs i = some v ∧ Q v H
def rIxS : R2 := fun x y H Q => ∃ z i c, x = .str z ∧ y = .int i ∧ z.length ≤ sizeLine ∧ atI z.cps.toList i = some c ∧ Q (.str ⟨#[c]⟩) H
theorem ix_list : IxR X (rIxL X.K) := by
  intro value slice pins s σ H x y v u Q I rx ry h hs
  obtain ⟨p, xs, i, z, rfl, rfl, hq, he, q⟩ := h
  cases rx
  obtain ⟨t, rfl⟩ := ry
  obtain ⟨its, r, pl, hz⟩ := I.list hq
  obtain ⟨j, h1, h2, h3, h4, h5⟩ := atI_get he
  obtain ⟨w, ew, rw'⟩ := r.get h2
  have hl := r.length
  have hn := line63
  have fin : EP X pins σ Q w s := ⟨z, H, I, rw', q⟩
  by_cases h0 : 0 ≤ i
  · have hj : i.toNat = j := by
      rw [seqIndex_of h0 h5] at h1
      exact Option.some.inj h1
    exact item_listR pl.isList h0 (by omega) (by rw [hj]; simpa using ew) fin hs
  · have hj : (i + (its.toArray.size : Int)).toNat = j := by
      rw [seqIndex_neg (by omega) h4] at h1
      rw [List.size_toArray, ← hl]
      exact Option.some.inj h1
    exact subscriptTail_builtinR (x := w) pl.isList.typeIs slot_list_getitem.lookup
      (wpAny_getItem_list_neg (Q := fun r s' => r = w ∧ EP X pins σ Q r s') pl.isList (by omega) (by rw [List.size_toArray] <;> omega) (by omega) (by rw [hj]; simpa using ew) ⟨rfl, fin⟩) hs
theorem ix_tup : IxR X (rIxT X.K) := by
  intro value slice pins s σ H x y v u Q I rx ry h hs
  obtain ⟨p, xs, i, z, rfl, rfl, hq, he, q⟩ := h
  cases rx
  obtain ⟨t, rfl⟩ := ry
  obtain ⟨its, r, pl, hz⟩ := I.tuple hq
  obtain ⟨j, h1, h2, h3, h4, h5⟩ := atI_get he
  obtain ⟨w, ew, rw'⟩ := r.get h2
  have hl := r.length
  have hn := line63
  have fin : EP X pins σ Q w s := ⟨z, H, I, rw', q⟩
  exact subscriptTail_builtinR (x := w) pl.typeIs slot_tuple_getitem.lookup
    (getItem_tuple (j := j) (Q := fun r s' => r = w ∧ EP X pins σ Q r s') pl (by omega) (by omega) (by rw [List.size_toArray, ← hl]; exact h1) (by simpa using ew) ⟨rfl, fin⟩) hs
theorem ix_str : IxR X rIxS := by
  intro value slice pins s σ H x y v u Q I rx ry h hs
  obtain ⟨z, i, c, rfl, rfl, hz, he, q⟩ := h
  obtain ⟨t, rfl⟩ := rx
  obtain ⟨t', rfl⟩ := ry
  obtain ⟨j, h1, h2, h3, h4, h5⟩ := atI_get he
  have hl : z.cps.toList.length = z.length := by simp [Str.length]
  rw [hl] at h1 h4 h5
  have hn := line63
  exact tail_any (typeIs_str s z t) slot_str_getitem.lookup (getItem_str (c := c) (by
    have e1 : decide (i < -(2 ^ 63 : Int)) = false := decide_eq_false (by omega)
    have e2 : decide (i ≥ 2 ^ 63) = false := decide_eq_false (by omega)
    rw [e1, e2, Bool.or_false]) (by rw [h1]; simpa using h2) ⟨.str ⟨#[c]⟩, H, I.tok _, ⟨_, rfl⟩, q⟩) hs
/-- list, tuple or str -/
def rIx (K : PySem.W.Frag) : R2 := fun x y H Q => rIxL K x y H Q ∨ rIxT K x y H Q ∨ rIxS x y H Q
theorem ix_seq : IxR X (rIx X.K) := ix_list.or (ix_tup.or ix_str)

/-! ### xs[i] = v, any sign -/
/-- the list's object behind a store -/
theorem mapSeq_set (its : List Value) (n j : Nat) (u : Value) : Obj.mapSeq (·.setIfInBounds j u) { cls := .type "list", data := .seq its.toArray n } = { cls := .type "list", data := .seq (its.set j u).toArray n } := by
  simp [Obj.mapSeq]
theorem Inv.lst {pins : List (Addr × Obj)} {σ : St} {H : Hp} {s : Shared} {p : Addr} {xs : List V} (I : Inv X pins σ H s) (h : H p = some (.lst xs)) :
    ∃ (its : List Value) (n : Nat), Vals xs its ∧ s.heap.get? p = some { cls := .type "list", data := .seq its.toArray n } ∧ xs.length ≤ sizeLine := by
  obtain ⟨z, its, n, r, e⟩ := I.hok p _ h
  exact ⟨its, n, r, e, z⟩
/-- the list at p is written by an update of its object -/
theorem Inv.lstUpd {pins : List (Addr × Obj)} {σ : St} {H : Hp} {s : Shared} {p : Addr} {xs ys : List V} {its its' : List Value} {n n' : Nat} {f : Obj → Obj} (I : Inv X pins σ H s) (h : H p = some (.lst xs))
    (ho : s.heap.get? p = some { cls := .type "list", data := .seq its.toArray n }) (hf : f { cls := .type "list", data := .seq its.toArray n } = { cls := .type "list", data := .seq its'.toArray n' }) (r : Vals ys its') (hz : ys.length ≤ sizeLine) (t : Nat) :
    Inv X pins σ (upd H p (.lst ys)) { s with heap := s.heap.update p f, toks := t } := by
  have e : (s.heap.update p f).get? p = some { cls := .type "list", data := .seq its'.toArray n' } := by
    rw [Heap.get?_update_self f ho (by rw [hf] <;> rfl), hf]
  refine I.write (x := p) (e := p) (by rw [h]; trivial) (.inl rfl) (fun b u hb q => (Heap.get?_update_other _ _ (Ne.symm hb)).trans q) ⟨_, e⟩ ?_
  exact ⟨hz, its', n', r, e⟩
def rSetL : V → V → V → Hp → (Hp → Prop) → Prop := fun o i v H Q => ∃ p xs k j, o = .ref p ∧ i = .int k ∧ H p = some (.lst xs) ∧ ixN xs.length k = some j ∧ Q (upd H p (.lst (xs.set j v)))
theorem set_list : PSet X rSetL := by
  intro pins s σ H o i v ov iv u Q I ro ri rv h
  obtain ⟨p, xs, k, j, rfl, rfl, hp, hj, q⟩ := h
  cases ro
  obtain ⟨t, rfl⟩ := ri
  obtain ⟨its, n, r, ho, hz⟩ := I.lst hp
  obtain ⟨h1, h2, h3, h4⟩ := ixN_seq hj
  have hl := r.length
  have hn := line63
  have I' : Inv X pins σ (upd H p (.lst (xs.set j v))) { s with heap := s.heap.update p (Obj.mapSeq (·.setIfInBounds j u)) } :=
    I.lstUpd hp ho (mapSeq_set its n j u) (r.set rv j) (by rw [List.length_set]; exact hz) s.toks
  by_cases h0 : 0 ≤ k
  · have hk : k.toNat = j := by
      rw [seqIndex_of h0 h4] at h1
      exact Option.some.inj h1
    exact PySem.W.ki_setAt ho h0 (by omega) (by rw [List.size_toArray, ← hl]; exact h4) (by rw [hk]; exact ⟨_, I', q⟩)
  · have hk : (k + (its.toArray.size : Int)).toNat = j := by
      rw [seqIndex_neg (by omega) h3] at h1
      rw [List.size_toArray, ← hl]
      exact Option.some.inj h1
    exact PySem.W.ki_setBack ho (by omega) (by rw [List.size_toArray, ← hl]; exact h3) (by omega) (by rw [hk]; exact ⟨_, I', q⟩)

/-! ### slices -/
theorem slice_bounds (lo hi : Option Int) (n : Nat) : (sliceBounds lo hi none n).1 = ((HT.sIx n 0 lo : Nat) : Int) ∧ (sliceBounds lo hi none n).2.1 = ((HT.sIx n n hi : Nat) : Int) ∧ (sliceBounds lo hi none n).2.2 = 1 := by
  refine ⟨?_, ?_, rfl⟩
  · cases lo with
    | none => simp [sliceBounds, HT.sIx]
    | some i =>
      simp only [sliceBounds, HT.sIx, Option.getD_none, show (1 : Int) > 0 by decide, if_true]
      by_cases h : i < 0
      · simp only [h, if_true] <;> omega
      · simp only [h, if_false] <;> omega
  · cases hi with
    | none => simp [sliceBounds, HT.sIx]
    | some i =>
      simp only [sliceBounds, HT.sIx, Option.getD_none, show (1 : Int) > 0 by decide, if_true]
      by_cases h : i < 0
      · simp only [h, if_true] <;> omega
      · simp only [h, if_false] <;> omega
theorem slicePick_cut (its : List Value) (lo hi : Option Int) : slicePick its.toArray lo hi none = ((its.drop (HT.sIx its.length 0 lo)).take (HT.sIx its.length its.length hi - HT.sIx its.length 0 lo)).toArray := by
  obtain ⟨h1, h2, h3⟩ := slice_bounds lo hi its.toArray.size
  unfold slicePick
  rw [h1, h2, h3]
  simp only [sliceRange_one, pick_run, List.size_toArray] <;> rfl
/-- xs[lo:hi] of a list: a new list -/
def rSlL (K : PySem.W.Frag) : V → Option Int → Option Int → Hp → VK → Prop := fun x lo hi H Q => ∃ a xs, x = .ref a ∧ SqL K H a xs ∧ ∀ p, H p = none → Q (.ref p) (upd H p (.lst (cutV xs lo hi)))
theorem sl_list : SlR X (rSlL X.K) := by
  intro pins s σ H x v vl vu lo hi sl Q I rx hs pl pu h
  obtain ⟨a, xs, rfl, hx, q⟩ := h
  cases rx
  obtain ⟨its, r, ht, hz⟩ := I.list hx
  have hlen := r.length
  refine ⟨"list", _, slot_list_getitem.lookup, ht.isList.typeIs, ?_⟩
  refine wpAny_getItem_list_slice ht.isList hs pl pu .none (by simp) ?_ (by rw [List.size_toArray] <;> omega)
  rw [slicePick_cut, ← hlen]
  refine ⟨.ref s.heap.objs.size, _, I.laid (t' := s.toks) (o := .lst (cutV xs lo hi)) (fun b ob q => Heap.get?_push_of_some _ q) (Nat.le_refl _) ?_, rfl, q _ (I.hok.fresh (Nat.le_refl _))⟩
  exact ⟨Nat.le_trans (cutV_length xs lo hi) hz, _, 0, (r.drop (HT.sIx xs.length 0 lo)).take (HT.sIx xs.length xs.length hi - HT.sIx xs.length 0 lo), Heap.get?_push_size _ rfl⟩

/-! ### in, not in: flat items -/
def flatV : V → Bool
  | .non => true
  | .bl _ => true
  | .int _ => true
  | .str _ => true
  | _ => false
/-- == of flat values -/
def eqV : V → V → Bool
  | .non, .non => true
  | .bl a, .bl b => a == b
  | .bl a, .int b => (if a then 1 else 0) == b
  | .int a, .bl b => a == (if b then 1 else 0)
  | .int a, .int b => a == b
  | .str a, .str b => a == b
  | _, _ => false
theorem eqAt_V {A : Around} {s : Shared} {y x : V} {u v : Value} (ry : RelV y u) (rx : RelV x v) (fy : flatV y = true) (fx : flatV x = true) : SeqAt.EqAt A s u v (eqV y x) := by
  cases y with
  | non =>
    cases ry
    cases x with
    | non => cases rx; exact SeqAt.EqAt.same _
    | bl b => cases rx; exact SeqAt.EqAt.none_bool b
    | int b => obtain ⟨t, rfl⟩ := rx; exact SeqAt.EqAt.none_int b t
    | str b => obtain ⟨t, rfl⟩ := rx; exact SeqAt.EqAt.none_str b t
    | _ => exact absurd (show false = true from fx) Bool.false_ne_true
  | bl a =>
    cases ry
    cases x with
    | non => cases rx; exact SeqAt.EqAt.bool_none a
    | bl b => cases rx; exact SeqAt.EqAt.bool_bool a b
    | int b => obtain ⟨t, rfl⟩ := rx; exact SeqAt.EqAt.bool_int a b t
    | str b => obtain ⟨t, rfl⟩ := rx; exact SeqAt.EqAt.bool_str a b t
    | _ => exact absurd (show false = true from fx) Bool.false_ne_true
  | int a =>
    obtain ⟨t', rfl⟩ := ry
    cases x with
    | non => cases rx; exact SeqAt.EqAt.int_none a t'
    | bl b => cases rx; exact SeqAt.EqAt.int_bool a t' b
    | int b => obtain ⟨t, rfl⟩ := rx; exact SeqAt.EqAt.int_int a t' b t
    | str b => obtain ⟨t, rfl⟩ := rx; exact SeqAt.EqAt.int_str a t' b t
    | _ => exact absurd (show false = true from fx) Bool.false_ne_true
  | str a =>
    obtain ⟨t', rfl⟩ := ry
    cases x with
    | non => cases rx; exact SeqAt.EqAt.str_none a t'
    | bl b => cases rx; exact SeqAt.EqAt.str_bool a t' b
    | int b => obtain ⟨t, rfl⟩ := rx; exact SeqAt.EqAt.str_int a t' b t
    | str b => obtain ⟨t, rfl⟩ := rx; exact SeqAt.EqAt.str_str a t' b t
    | _ => exact absurd (show false = true from fx) Bool.false_ne_true
  | _ => exact absurd (show false = true from fy) Bool.false_ne_true
/-- the items' answers, read off the values (a value's own answer does not lean on its token) -/
def eqU (x : V) (u : Value) : Bool := match u with
  | .none => eqV .non x
  | .bool b => eqV (.bl b) x
  | .int i _ => eqV (.int i) x
  | .str z _ => eqV (.str z) x
  | _ => false
theorem eqU_of {x y : V} {u : Value} (r : RelV y u) (f : flatV y = true) : eqU x u = eqV y x := by
  cases y with
  | non => cases r; rfl
  | bl b => cases r; rfl
  | int i => obtain ⟨t, rfl⟩ := r; rfl
  | str z => obtain ⟨t, rfl⟩ := r; rfl
  | _ => exact absurd (show false = true from f) Bool.false_ne_true
theorem any_eqU {x : V} : ∀ {xs : List V} {us : List Value}, Vals xs us → xs.all flatV = true → us.any (eqU x) = xs.any fun y => eqV y x
  | _, _, .nil, _ => rfl
  | y :: xs, u :: us, .cons r t, f => by
    rw [List.all_cons, Bool.and_eq_true] at f
    rw [List.any_cons, List.any_cons, eqU_of r f.1, any_eqU t f.2]
theorem mem_eqAt {A : Around} {s : Shared} {x : V} {v : Value} (rx : RelV x v) (fx : flatV x = true) : ∀ {xs : List V} {us : List Value}, Vals xs us → xs.all flatV = true → ∀ u ∈ us, SeqAt.EqAt A s u v (eqU x u)
  | _, _, .nil, _ => fun u hu => by cases hu
  | y :: xs, u :: us, .cons r t, f => fun u' hu => by
    rw [List.all_cons, Bool.and_eq_true] at f
    rcases List.mem_cons.mp hu with rfl | hu
    · rw [eqU_of r f.1]; exact eqAt_V r rx f.1 fx
    · exact mem_eqAt rx fx t f.2 u' hu
def inV (x : V) (xs : List V) : Bool := xs.any fun y => eqV y x
/-- x in a list or tuple of flat items -/
def rIn (K : PySem.W.Frag) (neg : Bool) : R2 := fun x y H Q => ∃ p xs, y = .ref p ∧ (SqL K H p xs ∨ SqT K H p xs) ∧ flatV x = true ∧ xs.all flatV = true ∧ Q (.bl (if neg then !inV x xs else inV x xs)) H
theorem op_in_seq : OpR X (compareOp .In) (rIn X.K false) := by
  intro pins s σ H x y v u Q I rx ry h
  obtain ⟨p, xs, rfl, hq, fx, fs, q⟩ := h
  cases ry
  rcases hq with hq | hq
  · obtain ⟨its, r, pl, hz⟩ := I.list hq
    refine SeqAt.in_listAt (eqU x) pl.isList (fun w hw => mem_eqAt rx fx r fs w (by simpa using hw)) ⟨.bl _, H, I, rfl, ?_⟩
    rw [show its.toArray.any (eqU x) = its.any (eqU x) by simp, any_eqU r fs]
    exact q
  · obtain ⟨its, r, pl, hz⟩ := I.tuple hq
    refine SeqAt.in_tupleAt (eqU x) pl (fun w hw => mem_eqAt rx fx r fs w (by simpa using hw)) ⟨.bl _, H, I, rfl, ?_⟩
    rw [show its.toArray.any (eqU x) = its.any (eqU x) by simp, any_eqU r fs]
    exact q
theorem op_notIn_seq : OpR X (compareOp .NotIn) (rIn X.K true) := by
  intro pins s σ H x y v u Q I rx ry h
  obtain ⟨p, xs, rfl, hq, fx, fs, q⟩ := h
  cases ry
  rcases hq with hq | hq
  · obtain ⟨its, r, pl, hz⟩ := I.list hq
    refine SeqAt.notIn_listAt (eqU x) pl.isList (fun w hw => mem_eqAt rx fx r fs w (by simpa using hw)) ⟨.bl _, H, I, rfl, ?_⟩
    rw [show its.toArray.any (eqU x) = its.any (eqU x) by simp, any_eqU r fs]
    exact q
  · obtain ⟨its, r, pl, hz⟩ := I.tuple hq
    refine SeqAt.notIn_tupleAt (eqU x) pl (fun w hw => mem_eqAt rx fx r fs w (by simpa using hw)) ⟨.bl _, H, I, rfl, ?_⟩
    rw [show its.toArray.any (eqU x) = its.any (eqU x) by simp, any_eqU r fs]
    exact q
theorem op_notIn_str : OpR X (compareOp .NotIn) (fun x y H Q => ∃ i j, x = .str i ∧ y = .str j ∧ Q (.bl (!(!(Builtin.Str.occurrences j i 0 j.length 1).isEmpty))) H) := by
  intro pins s σ H x y v u Q I rx ry h
  obtain ⟨i, j, rfl, rfl, q⟩ := h
  obtain ⟨t, rfl⟩ := rx
  obtain ⟨t', rfl⟩ := ry
  exact notIn_str ⟨.bl _, H, I, rfl, q⟩

/-! ### len, list(x), tuple(x) of any list or tuple that is read -/
theorem call_len_seq : CallR X (.builtin "len") (fun xs H Q => ∃ p ys, xs = [.ref p] ∧ (SqL X.K H p ys ∨ SqT X.K H p ys) ∧ Q (.int ys.length) H) := by
  intro pins s σ H xs us Q I r h
  obtain ⟨p, ys, rfl, hq, q⟩ := h
  obtain ⟨u, rfl, rx⟩ := vals1 r
  cases rx
  have hn := line63
  rcases hq with hq | hq
  · obtain ⟨its, r', pl, hz⟩ := I.list hq
    have hlen := r'.length
    exact Calls.call_len_list pl.isList (by simp only [List.size_toArray] <;> omega) ⟨.int ys.length, H, I.tok _, ⟨s.toks + 1, by rw [List.size_toArray, hlen]⟩, q⟩
  · obtain ⟨its, r', pl, hz⟩ := I.tuple hq
    have hlen := r'.length
    exact len_tuple pl (by simp only [List.size_toArray] <;> omega) ⟨.int ys.length, H, I.tok _, ⟨s.toks + 1, by rw [List.size_toArray, hlen]⟩, q⟩
theorem call_len_str : CallR X (.builtin "len") (fun xs H Q => ∃ z, xs = [.str z] ∧ z.length ≤ sizeLine ∧ Q (.int z.length) H) := by
  intro pins s σ H xs us Q I r h
  obtain ⟨z, rfl, hz, q⟩ := h
  obtain ⟨u, rfl, t, rfl⟩ := vals1 r
  have hn := line63
  exact len_str (by omega) ⟨.int z.length, H, I.tok _, ⟨_, rfl⟩, q⟩
theorem CallR.or {f : Value} {r r' : List V → Hp → VK → Prop} (h : CallR X f r) (h' : CallR X f r') : CallR X f (fun xs H Q => r xs H Q ∨ r' xs H Q) := by
  intro pins s σ H xs us Q I rs q
  rcases q with q | q
  · exact h pins s σ H xs us Q I rs q
  · exact h' pins s σ H xs us Q I rs q
theorem call_list_of : CallR X (.type "list") (fun xs H Q => ∃ p ys, xs = [.ref p] ∧ (SqL X.K H p ys ∨ SqT X.K H p ys) ∧ ∀ l, H l = none → Q (.ref l) (upd H l (.lst ys))) := by
  intro pins s σ H xs us Q I r h
  obtain ⟨p, ys, rfl, hq, q⟩ := h
  obtain ⟨u, rfl, rx⟩ := vals1 r
  cases rx
  have fin : ∀ (its : List Value), Vals ys its → ys.length ≤ sizeLine → ∀ (h' : Heap) (c' : Nat), (∀ b o', s.heap.get? b = some o' → h'.get? b = some o') →
      h'.get? s.heap.objs.size = some { cls := .type "list", dict := none, data := .seq its.toArray c', slots := #[] } → EP X pins σ Q (.ref s.heap.objs.size) { s with heap := h' } := fun its r' hz h' c' kp e =>
    ⟨.ref s.heap.objs.size, _, I.laid (t' := s.toks) kp (Nat.le_refl _) (show ObjOk X.prog X.w _ h' _ (.lst ys) from ⟨hz, its, c', r', e⟩), rfl, q _ (I.hok.fresh (Nat.le_refl _))⟩
  rcases hq with hq | hq
  · obtain ⟨its, r', pl, hz⟩ := I.list hq
    have hlen := r'.length
    obtain ⟨o, ho, hc, n, hd⟩ := pl.isList
    exact call_list_seq p (.inl rfl) ho hc hd (fun h' c' kp e => fin its r' hz h' c' kp e) (by simp only [List.size_toArray] <;> omega)
  · obtain ⟨its, r', pl, hz⟩ := I.tuple hq
    have hlen := r'.length
    obtain ⟨o, ho, hc, n, hd⟩ := pl
    exact call_list_seq p (.inr rfl) ho hc hd (fun h' c' kp e => fin its r' hz h' c' kp e) (by simp only [List.size_toArray] <;> omega)
theorem call_tuple_of : CallR X (.type "tuple") (fun xs H Q => ∃ p ys, xs = [.ref p] ∧ ((SqL X.K H p ys ∧ ∀ l, H l = none → Q (.ref l) (upd H l (.tup ys))) ∨ (SqT X.K H p ys ∧ Q (.ref p) H))) := by
  intro pins s σ H xs us Q I r h
  obtain ⟨p, ys, rfl, h⟩ := h
  obtain ⟨u, rfl, rx⟩ := vals1 r
  cases rx
  rcases h with ⟨hq, q⟩ | ⟨hq, q⟩
  · obtain ⟨its, r', pl, hz⟩ := I.list hq
    have hlen := r'.length
    refine call_tuple_list pl.isList (fun h' kp => ?_) (by simp only [List.size_toArray] <;> omega)
    have I1 : Inv X pins σ H { s with heap := h' } := I.kept (t' := s.toks) kp
    have I2 : Inv X pins σ (upd H h'.objs.size (.tup ys)) { s with heap := h'.push { cls := .type "tuple", data := .seq its.toArray } } :=
      I1.laid (t' := s.toks) (fun b o e => Heap.get?_push_of_some _ e) (Nat.le_refl _) (show ObjOk X.prog X.w _ _ _ (.tup ys) from ⟨hz, its, r', IsTup.new _ _⟩)
    exact ⟨.ref h'.objs.size, _, I2, rfl, q _ (I1.hok.fresh (Nat.le_refl _))⟩
  · obtain ⟨its, r', pl, hz⟩ := I.tuple hq
    exact call_tuple_same pl ⟨.ref p, H, I, rfl, q⟩

/-! ### the call of a builtin's method: o.m(..) -/
/-- the value is of that builtin type -/
def tyV (K : PySem.W.Frag) (T : String) (x : V) (H : Hp) : Prop := match x with
  | .str _ => T = "str"
  | .int _ => T = "int"
  | .ref p => (T = "list" ∧ ∃ xs, SqL K H p xs) ∨ (T = "tuple" ∧ ∃ o, K.lookup p = some o ∧ o.cls = .type "tuple" ∧ o.dict = none) ∨
      (T = "dict" ∧ ((∃ kvs, H p = some (.dK kvs)) ∨ ∃ kvs, H p = some (.dT kvs))) ∨ (T = "set" ∧ ∃ S n, H p = some (.set S n))
  | _ => False
theorem tyV_is {pins : List (Addr × Obj)} {σ : St} {H : Hp} {s : Shared} {T : String} {x : V} {v : Value} (I : Inv X pins σ H s) (r : RelV x v) (ty : tyV X.K T x H) :
    s.TypeIs v T ∧ ∀ a, v = .ref a → ∃ ob, s.heap.get? a = some ob ∧ ob.dict = none := by
  cases x with
  | str z =>
    obtain ⟨t, rfl⟩ := r
    cases (show T = "str" from ty)
    exact ⟨typeIs_str s z t, fun _ e => nomatch e⟩
  | int i =>
    obtain ⟨t, rfl⟩ := r
    cases (show T = "int" from ty)
    exact ⟨typeIs_int s i t, fun _ e => nomatch e⟩
  | ref p =>
    cases r
    rcases ty with ⟨rfl, xs, hq⟩ | ⟨rfl, o, hk, hc, hd⟩ | ⟨rfl, hk⟩ | ⟨rfl, S, n, hk⟩
    · obtain ⟨its, _, pl, _⟩ := I.list hq
      refine ⟨pl.isList.typeIs, fun a e => ?_⟩
      cases e
      obtain ⟨o, n, e, c, hd, _⟩ := pl
      exact ⟨o, e, hd⟩
    · refine ⟨⟨o, I.kIn p o hk, hc⟩, fun a e => ?_⟩
      cases e
      exact ⟨o, I.kIn _ o hk, hd⟩
    · have z : ∃ o, s.heap.get? p = some o ∧ o.ExactDict := by
        rcases hk with ⟨kvs, hk⟩ | ⟨kvs, hk⟩
        · obtain ⟨_, _, _, _, o, _, _, e, ex, _⟩ := I.hok p _ hk
          exact ⟨o, e, ex⟩
        · obtain ⟨_, _, _, _, o, _, _, e, ex, _⟩ := I.hok p _ hk
          exact ⟨o, e, ex⟩
      obtain ⟨o, e, ex⟩ := z
      refine ⟨⟨o, e, ex.1⟩, fun a e2 => ?_⟩
      cases e2
      exact ⟨o, e, ex.2.1⟩
    · obtain ⟨o, _, _, _, e, ex, _⟩ := I.hok p _ hk
      refine ⟨⟨o, e, ex.1⟩, fun a e2 => ?_⟩
      cases e2
      exact ⟨o, e, ex.2.1⟩
  | _ => exact False.elim ty
def tBM0 (K : PySem.W.Frag) (T : String) (r : V → List V → Hp → VK → Prop) (to : TE) : TE := fun σ H Q => to σ H fun x H1 => tyV K T x H1 ∧ r x [] H1 Q
def tBM (K : PySem.W.Frag) (T : String) (r : V → List V → Hp → VK → Prop) (to : TE) (t : TA) : TE := fun σ H Q => to σ H fun x H1 => tyV K T x H1 ∧ t σ H1 fun xs H2 => r x xs H2 Q
variable {o e : Expr} {es : List Expr} {to : TE} {t : TA} {name : Str} {apos cpos : Pos} {T id : String} {r : V → List V → Hp → VK → Prop}
theorem pe_bm0 (pa : PlainAttrs T) (slot : Slot T name id) (hty : typeOf (.builtin id) = pure (.type "method_descriptor")) (hm : MtR X id r) (ho : PE X o to)
    (hbase : attributeBase o name X.env (eval o X.env) = eval o X.env := by rfl) (hline : (apos.endLine == cpos.line) = true := by rfl) : PE X (.Call (.Attribute o name apos) [] [] cpos) (tBM0 X.K T r to) := by
  intro pins s σ H Q I h
  refine wpAny_Call_method0_late hbase hline (thn (ho pins s σ H _ I h) fun v s1 ⟨x, H1, I1, r1, ty, q1⟩ => ?_)
  obtain ⟨h1, h2⟩ := tyV_is I1 r1 ty
  exact ⟨T, id, pa, slot, hty, h1, h2, Calls.callWith_builtin rfl (PySem.evalArgs_none (hm pins s1 σ H1 x [] v [] Q I1 r1 .nil q1))⟩
theorem pe_bm (pa : PlainAttrs T) (slot : Slot T name id) (hty : typeOf (.builtin id) = pure (.type "method_descriptor")) (hm : MtR X id r) (ho : PE X o to) (ha : PA X (e :: es) t)
    (hbase : attributeBase o name X.env (eval o X.env) = eval o X.env := by rfl)
    (hfew : ((backTo cpos (starEach (e :: es) X.env)).all (fun x => !x.1) && (backToKw cpos (keywordEach [] X.env)).all (fun x => x.1.isSome)
      && decide ((e :: es).length + ([] : List Keyword).length + (if ([] : List Keyword).isEmpty then 0 else 1) < 30)) = true := by rfl)
    (hline : (apos.endLine == cpos.line) = true := by rfl) (hs : starEach (e :: es) X.env = (false, eval e X.env) :: starEach es X.env := by rfl) (hplain : (backTo cpos (starEach es X.env)).any (·.1) = false := by rfl) :
    PE X (.Call (.Attribute o name apos) (e :: es) [] cpos) (tBM X.K T r to t) := by
  intro pins s σ H Q I h
  refine wpAny_Call_method_late hbase hfew hline rfl (thn (ho pins s σ H _ I h) fun v s1 ⟨x, H1, I1, r1, ty, q1⟩ => ?_)
  obtain ⟨h1, h2⟩ := tyV_is I1 r1 ty
  refine ⟨T, id, pa, slot, hty, h1, h2, ?_⟩
  have hA := ha cpos pins s1 σ H1 _ I1 q1
  rw [hs] at hA ⊢
  refine Calls.callWith_builtin (by show (false || (backTo cpos (starEach es X.env)).any (·.1)) = false; rw [hplain] <;> rfl) (Calls.evalArgs_plain ?_)
  exact thn hA fun us s2 ⟨vs, H2, I2, r2, q2⟩ => hm pins s2 σ H2 x vs v us Q I2 r1 r2 q2
/- xs.append(e), list.index on a module's tuple .. are MtR facts of 06m -/
end
end L2

namespace L2
open PySem PySem.Spec PyProof.Rows

def MtM (X : Cx) (id : String) (r : V → List V → Hp → VK → Prop) : Prop :=
  ∀ (pins : List (Addr × Obj)) (s : Shared) (σ : St) (H : Hp) (x : V) (xs : List V) (v : Value) (us : List Value) (Q : VK), Inv X pins σ H s → RelV x v → Vals xs us → r x xs H Q →
    wpAny (model X.prog X.w) X.A (call (.builtin id) (v :: us)) (EP X pins σ Q) X.xe s

/-! ### lists of values -/
theorem Vals.one : ∀ {x : V} {us : List Value}, Vals [x] us → ∃ u, us = [u] ∧ RelV x u
  | _, _, .cons r .nil => ⟨_, rfl, r⟩
theorem Vals.two : ∀ {x y : V} {us : List Value}, Vals [x, y] us → ∃ u v, us = [u, v] ∧ RelV x u ∧ RelV y v
  | _, _, _, .cons r (.cons q .nil) => ⟨_, _, rfl, r, q⟩
theorem Vals.zero : ∀ {us : List Value}, Vals [] us → us = []
  | _, .nil => rfl
theorem Vals.dropLast {xs : List V} {us : List Value} (h : Vals xs us) : Vals xs.dropLast us.dropLast := by
  induction h with
  | nil => exact .nil
  | cons r t ih =>
    cases t with
    | nil => exact .nil
    | cons q t' => exact .cons r ih
theorem Vals.eraseIdx : ∀ {xs : List V} {us : List Value} (i : Nat), Vals xs us → Vals (xs.eraseIdx i) (us.eraseIdx i)
  | _, _, _, .nil => .nil
  | _, _, 0, .cons _ t => t
  | _, _, i + 1, .cons r t => .cons r (Vals.eraseIdx i t)
theorem Vals.reverse {xs : List V} {us : List Value} (h : Vals xs us) : Vals xs.reverse us.reverse := by
  induction h with
  | nil => exact .nil
  | cons r t ih => rw [List.reverse_cons, List.reverse_cons]; exact Vals.append ih (.cons r .nil)
theorem Vals.rep {xs : List V} {us : List Value} (h : Vals xs us) : ∀ k : Nat, Vals (List.replicate k xs).flatten (List.replicate k us).flatten
  | 0 => .nil
  | k + 1 => by
    rw [List.replicate_succ, List.replicate_succ, List.flatten_cons, List.flatten_cons]
    exact Vals.append h (Vals.rep h k)
theorem erase_last {α : Type} (l : List α) : l.eraseIdx (l.length - 1) = l.dropLast := by
  induction l with
  | nil => rfl
  | cons a r ih =>
    cases r with
    | nil => rfl
    | cons b r =>
      have e : (a :: b :: r).length - 1 = ((b :: r).length - 1) + 1 := by
        have h1 : (a :: b :: r).length = r.length + 2 := rfl
        have h2 : (b :: r).length = r.length + 1 := rfl
        omega
      rw [e, List.eraseIdx_cons_succ, ih]
      all_goals rfl
theorem len_erase {α : Type} : ∀ (l : List α) (i : Nat), (l.eraseIdx i).length ≤ l.length
  | [], _ => Nat.le_refl _
  | _ :: _, 0 => Nat.le_succ _
  | _ :: r, i + 1 => Nat.succ_le_succ (len_erase r i)
theorem foldl_rep (its : List Value) : ∀ (k : Nat) (acc : List Value),
    List.foldl (fun x1 x2 => x1 ++ x2) acc.toArray (List.replicate k its.toArray) = (acc ++ (List.replicate k its).flatten).toArray
  | 0, acc => by simp
  | k + 1, acc => by
    have e : acc.toArray ++ its.toArray = (acc ++ its).toArray := by simp
    have e2 : (acc ++ its) ++ (List.replicate k its).flatten = acc ++ (List.replicate (k + 1) its).flatten := by
      rw [List.replicate_succ, List.flatten_cons, List.append_assoc]
    rw [← e2, ← foldl_rep its k (acc ++ its), ← e, List.replicate_succ, List.foldl_cons]

section
variable {X : Cx} {pins : List (Addr × Obj)} {σ : St} {H : Hp} {s : Shared} {l b : Addr} {xs ys zs : List V}

/-! ### the two steps: a tracked list is rewritten, a new list is laid -/
theorem Inv.lset {its its' : List Value} {n : Nat} {f : Array Value → Array Value} {t' : Nat} (I : Inv X pins σ H s) (hH : H l = some (.lst xs))
    (e : s.heap.get? l = some { cls := .type "list", data := .seq its.toArray n }) (hf : f its.toArray = its'.toArray) (hv : Vals ys its') (hz : ys.length ≤ sizeLine) :
    Inv X pins σ (upd H l (.lst ys)) { s with heap := s.heap.update l (Obj.mapSeq f), toks := t' } := by
  have q := PySem.IsL.update e f
  rw [hf] at q
  refine I.write (x := l) (e := l) (by rw [hH]; exact trivial) (.inl rfl) (fun b' u hb hu => (Heap.get?_update_other s.heap (Obj.mapSeq f) (Ne.symm hb)).trans hu) ⟨_, q⟩ ?_
  exact ⟨hz, its', _, hv, q⟩
theorem Inv.lnew {its : List Value} {t' : Nat} (I : Inv X pins σ H s) (hv : Vals ys its) (hz : ys.length ≤ sizeLine) :
    Inv X pins σ (upd H s.heap.objs.size (.lst ys)) { s with heap := s.heap.push { cls := .type "list", data := .seq its.toArray }, toks := t' } :=
  I.laid (fun _ _ q => Heap.get?_push_of_some _ q) (Nat.le_refl _) ⟨hz, its, 0, hv, Heap.get?_push_size _ rfl⟩
theorem Inv.fresh (I : Inv X pins σ H s) : H s.heap.objs.size = none := I.hok.fresh (Nat.le_refl _)
theorem Inv.lstM (I : Inv X pins σ H s) (hH : H l = some (.lst xs)) : xs.length ≤ sizeLine ∧ ∃ (its : List Value) (n : Nat), Vals xs its ∧ xs.length = its.length ∧ s.heap.get? l = some { cls := .type "list", data := .seq its.toArray n } := by
  obtain ⟨z, its, n, r, e⟩ := I.hok l _ hH
  exact ⟨z, its, n, r, r.length, e⟩

theorem notLongL {n : Nat} (h : n ≤ sizeLine) : Builtin.List.listTooLong n = false := by
  unfold Builtin.List.listTooLong
  exact decide_eq_false (by omega)
end

section
variable {X : Cx}

/-! ### methods -/
def rAppend : V → List V → Hp → VK → Prop := fun x vs H Q => ∃ l xs y, x = .ref l ∧ vs = [y] ∧ H l = some (.lst xs) ∧ xs.length < sizeLine ∧ Q .non (upd H l (.lst (xs ++ [y])))
theorem mt_append : MtM X "list.append" rAppend := by
  intro pins s σ H x vs v us Q I rx rv h
  obtain ⟨l, xs, y, rfl, rfl, hH, hz, q⟩ := h
  cases rx
  obtain ⟨u, rfl, ru⟩ := rv.one
  obtain ⟨z, its, n, r, hl, e⟩ := I.lstM hH
  refine call_meets F.slot_list_append ⟨_, e, rfl⟩ F.entry_list_append (F.args_list_append_2 _ _) (PySem.list_append l its.toArray n u (by rw [List.size_toArray]; omega)) ⟨e, ?_⟩
  refine ⟨.non, _, I.lset (its' := its ++ [u]) hH e (by simp) (r.append (.cons ru .nil)) ?_, rfl, q⟩
  rw [List.length_append, List.length_singleton]
  omega

def rExtend : V → List V → Hp → VK → Prop := fun x vs H Q => ∃ l b xs zs, x = .ref l ∧ vs = [.ref b] ∧ H l = some (.lst xs) ∧ H b = some (.lst zs) ∧ xs.length + zs.length ≤ sizeLine ∧ Q .non (upd H l (.lst (xs ++ zs)))
theorem mt_extend : MtM X "list.extend" rExtend := by
  intro pins s σ H x vs v us Q I rx rv h
  obtain ⟨l, b, xs, zs, rfl, rfl, hH, hB, hz, q⟩ := h
  cases rx
  obtain ⟨u, rfl, ru⟩ := rv.one
  cases ru
  obtain ⟨z, its, n, r, hl, e⟩ := I.lstM hH
  obtain ⟨z2, its2, n2, r2, hl2, e2⟩ := I.lstM hB
  have hsz : its.toArray.size + its2.toArray.size ≤ sizeLine := by rw [List.size_toArray, List.size_toArray]; omega
  have hlong : ¬ (!its.toArray.isEmpty && Builtin.List.listTooLong (its.toArray.size + its2.toArray.size)) = true := by
    rw [notLongL hsz, Bool.and_false]
    exact Bool.false_ne_true
  refine call_meets F.slot_list_extend ⟨_, e, rfl⟩ F.entry_list_extend (F.args_list_extend_2 _ _)
    (AutoSeq1.list_extend_list_list_0 l its.toArray n b its2.toArray n2 hlong (by rw [List.size_toArray]; omega) (by omega)) ⟨e, e2, ?_⟩
  refine ⟨.non, _, I.lset (its' := its ++ its2) hH e (by simp) (r.append r2) ?_, rfl, q⟩
  rw [List.length_append]
  omega

def rPop : V → List V → Hp → VK → Prop := fun x vs H Q => ∃ l xs y, x = .ref l ∧ vs = [] ∧ H l = some (.lst xs) ∧ xs[xs.length - 1]? = some y ∧ Q y (upd H l (.lst xs.dropLast))
theorem mt_pop : MtM X "list.pop" rPop := by
  intro pins s σ H x vs v us Q I rx rv h
  obtain ⟨l, xs, y, rfl, rfl, hH, hy, q⟩ := h
  cases rx
  have hus := rv.zero
  subst hus
  obtain ⟨z, its, n, r, hl, e⟩ := I.lstM hH
  obtain ⟨u, hu, ru⟩ := r.get hy
  have hy' : its.toArray[its.toArray.size - 1]? = some u := by
    show its.toArray[its.length - 1]? = some u
    rw [← Array.getElem?_toList, ← hl]
    exact hu
  refine call_meets F.slot_list_pop ⟨_, e, rfl⟩ F.entry_list_pop (F.args_list_pop_1 _) (MeetsSeq.list_pop_last l its.toArray n u hy' (by rw [List.size_toArray]; omega)) ⟨e, ?_⟩
  refine ⟨y, _, I.lset (its' := its.dropLast) hH e ?_ r.dropLast ?_, ru, q⟩
  · show its.toArray.eraseIdxIfInBounds (its.toArray.size - 1) = its.dropLast.toArray
    rw [List.size_toArray, List.eraseIdxIfInBounds_toArray, erase_last]
  · rw [List.length_dropLast]
    omega

def rPopAt : V → List V → Hp → VK → Prop := fun x vs H Q => ∃ l xs i k y, x = .ref l ∧ vs = [.int i] ∧ H l = some (.lst xs) ∧ -(2 ^ 63) ≤ i ∧ i < 2 ^ 63 ∧ seqIndex? i xs.length = some k ∧ xs[k]? = some y ∧ Q y (upd H l (.lst (xs.eraseIdx k)))
theorem mt_popAt : MtM X "list.pop" rPopAt := by
  intro pins s σ H x vs v us Q I rx rv h
  obtain ⟨l, xs, i, k, y, rfl, rfl, hH, h1, h2, hk, hy, q⟩ := h
  cases rx
  obtain ⟨u, rfl, ru⟩ := rv.one
  obtain ⟨t, rfl⟩ := ru
  obtain ⟨z, its, n, r, hl, e⟩ := I.lstM hH
  obtain ⟨w, hw, rw'⟩ := r.get hy
  refine call_meets F.slot_list_pop ⟨_, e, rfl⟩ F.entry_list_pop (F.args_list_pop_2 _ _)
    (MeetsSeq.list_pop_at l its.toArray n i t k w (fitsIndex_both h1 h2) (by rw [List.size_toArray, ← hl]; exact hk) (by rw [← Array.getElem?_toList]; exact hw) (by rw [List.size_toArray]; omega)) ⟨e, ?_⟩
  refine ⟨y, _, I.lset (its' := its.eraseIdx k) hH e ?_ (r.eraseIdx k) ?_, rw', q⟩
  · show its.toArray.eraseIdxIfInBounds k = (its.eraseIdx k).toArray
    rw [List.eraseIdxIfInBounds_toArray]
  · have := len_erase xs k
    omega

def rReverse : V → List V → Hp → VK → Prop := fun x vs H Q => ∃ l xs, x = .ref l ∧ vs = [] ∧ H l = some (.lst xs) ∧ Q .non (upd H l (.lst xs.reverse))
theorem mt_reverse : MtM X "list.reverse" rReverse := by
  intro pins s σ H x vs v us Q I rx rv h
  obtain ⟨l, xs, rfl, rfl, hH, q⟩ := h
  cases rx
  have hus := rv.zero
  subst hus
  obtain ⟨z, its, n, r, hl, e⟩ := I.lstM hH
  refine call_meets F.slot_list_reverse ⟨_, e, rfl⟩ F.entry_list_reverse (F.args_list_reverse_1 _) (AutoSeq1.list_reverse_list_0 l its.toArray n (by rw [List.size_toArray]; omega)) ⟨e, ?_⟩
  refine ⟨.non, _, I.lset (its' := its.reverse) hH e (by simp) r.reverse ?_, rfl, q⟩
  rw [List.length_reverse]
  omega

def rClear : V → List V → Hp → VK → Prop := fun x vs H Q => ∃ l xs, x = .ref l ∧ vs = [] ∧ H l = some (.lst xs) ∧ Q .non (upd H l (.lst []))
theorem mt_clear : MtM X "list.clear" rClear := by
  intro pins s σ H x vs v us Q I rx rv h
  obtain ⟨l, xs, rfl, rfl, hH, q⟩ := h
  cases rx
  have hus := rv.zero
  subst hus
  obtain ⟨z, its, n, r, hl, e⟩ := I.lstM hH
  refine call_meets F.slot_list_clear ⟨_, e, rfl⟩ F.entry_list_clear (F.args_list_clear_1 _) (AutoSeq1.list_clear_list_0 l its.toArray n (by rw [List.size_toArray]; omega)) ⟨e, ?_⟩
  exact ⟨.non, _, I.lset (its' := []) (ys := []) hH e rfl .nil (Nat.zero_le _), rfl, q⟩

/-! ### list + list, list += list, list * int -/
def rCat : R2 := fun x y H Q => ∃ l b xs zs, x = .ref l ∧ y = .ref b ∧ H l = some (.lst xs) ∧ H b = some (.lst zs) ∧ xs.length + zs.length ≤ sizeLine ∧ ∀ p, H p = none → Q (.ref p) (upd H p (.lst (xs ++ zs)))
theorem op_cat : OpR X (binaryOp .Add) rCat := by
  intro pins s σ H x y v u Q I rx ry h
  obtain ⟨l, b, xs, zs, rfl, rfl, hH, hB, hz, q⟩ := h
  cases rx
  cases ry
  obtain ⟨z, its, n, r, hl, e⟩ := I.lstM hH
  obtain ⟨z2, its2, n2, r2, hl2, e2⟩ := I.lstM hB
  refine PySem.P.add_list e e2 ?_ (by rw [List.size_toArray, List.size_toArray]; omega)
  have ea : its.toArray ++ its2.toArray = (its ++ its2).toArray := by simp
  rw [ea]
  exact ⟨.ref _, _, I.lnew (t' := s.toks) (r.append r2) (by rw [List.length_append]; omega), rfl, q _ I.fresh⟩
/-- a list times an int (a negative one is nothing) -/
def rRep : R2 := fun x y H Q => ∃ l k xs, x = .ref l ∧ y = .int k ∧ H l = some (.lst xs) ∧ -(2 ^ 63) ≤ k ∧ k < 2 ^ 63 ∧ xs.length * k.toNat ≤ sizeLine ∧
  ∀ p, H p = none → Q (.ref p) (upd H p (.lst (List.replicate k.toNat xs).flatten))
theorem len_rep {α : Type} (xs : List α) (k : Nat) : (List.replicate k xs).flatten.length = k * xs.length := by
  induction k with
  | zero => simp
  | succ k ih => rw [List.replicate_succ, List.flatten_cons, List.length_append, ih, Nat.succ_mul, Nat.add_comm]
theorem op_rep : OpR X (binaryOp .Mult) rRep := by
  intro pins s σ H x y v u Q I rx ry h
  obtain ⟨l, k, xs, rfl, rfl, hH, h1, h2, hz, q⟩ := h
  cases rx
  obtain ⟨t, rfl⟩ := ry
  obtain ⟨z, its, n, r, hl, e⟩ := I.lstM hH
  have hlen : its.toArray.size * k.toNat ≤ sizeLine := by rw [List.size_toArray, ← hl]; exact hz
  have hcap : ¬ its.toArray.size * k.toNat > (2 ^ 63 - 1) / 8 := by
    have : (sizeLine : Nat) ≤ (2 ^ 63 - 1) / 8 := by decide
    omega
  have hfit : ¬ (!Builtin.List.listFitsIndex k) = true := by
    rw [fitsIndex_both h1 h2]
    exact Bool.false_ne_true
  have hlong : ¬ Builtin.List.listTooLong (its.toArray.size * k.toNat) = true := by
    rw [notLongL hlen]
    exact Bool.false_ne_true
  have hnew : List.foldl (fun x1 x2 => x1 ++ x2) #[] (List.replicate (if its.toArray.isEmpty = true then 0 else k.toNat) its.toArray) = (List.replicate k.toNat its).flatten.toArray := by
    have f0 : ∀ m : Nat, List.foldl (fun x1 x2 => x1 ++ x2) #[] (List.replicate m its.toArray) = (List.replicate m its).flatten.toArray := fun m => by
      have := foldl_rep its m []
      rw [List.nil_append] at this
      exact this
    rw [f0]
    cases its with
    | nil => simp
    | cons a r' => rw [if_neg (by simp)]
  refine wpAny_binaryOp_repeat_ref (T := "list") (U := "int") (by decide) ⟨_, e, rfl⟩ (fun s' => typeIs_int s' k t) noFill_list_mul F.fills_int_mul F.slot_int_rmul repeat_list F.slot_int_index.lookup
    (call_meets F.slot_int_rmul (typeIs_int s k t) F.entry_int_rmul (F.args_int_rmul_2 _ _) (int___rmul___int_list k t l its.toArray n)
      ⟨e, rfl, ⟨_, e, rfl⟩, call_meets F.slot_list_mul ⟨_, e, rfl⟩ F.entry_list_mul (F.args_list_mul_2 _ _) (AutoListH.list___mul___list_int_3 l its.toArray n k t hfit hcap hlong) ⟨e, ?_⟩⟩)
  rw [hnew]
  exact ⟨.ref _, _, I.lnew (t' := s.toks) (r.rep k.toNat) (by rw [len_rep, Nat.mul_comm]; exact hz), rfl, q _ I.fresh⟩

/-! ### del xs[i] -/
theorem del_list {pins : List (Addr × Obj)} {s : Shared} {σ : St} {H : Hp} {l : Addr} {xs : List V} {i : Int} {t : Tok} {k : Nat} {Q : Unit → Shared → Prop} (I : Inv X pins σ H s) (hH : H l = some (.lst xs))
    (h1 : -(2 ^ 63) ≤ i) (h2 : i < 2 ^ 63) (hk : seqIndex? i xs.length = some k) (h : ∀ s', Inv X pins σ (upd H l (.lst (xs.eraseIdx k))) s' → Q () s') :
    wpAny (model X.prog X.w) X.A (delItem (.ref l) (.int i t)) Q X.xe s := by
  obtain ⟨z, its, n, r, hl, e⟩ := I.lstM hH
  refine PySem.P.delItem_list (k := k) e (fitsIndex_both h1 h2) (by rw [List.size_toArray, ← hl]; exact hk) (h _ ?_) (by rw [List.size_toArray]; omega)
  refine I.lset (its' := its.eraseIdx k) (t' := s.toks) hH e ?_ (r.eraseIdx k) ?_
  · show its.toArray.eraseIdxIfInBounds k = (its.eraseIdx k).toArray
    rw [List.eraseIdxIfInBounds_toArray]
  · have := len_erase xs k
    omega
end

/-! ### xs[a:b] = ys -/
section
variable {prog : Program} {w : World} {A : Around} {E : Value → Shared → Prop} {s : Shared}
theorem splice_eq (its its2 : List Value) (a c : Nat) : its.toArray.extract 0 a ++ its2.toArray ++ its.toArray.extract c its.toArray.size = (its.take a ++ its2 ++ its.drop c).toArray := by
  apply Array.toList_inj.mp
  first
    | (simp
       exact List.take_of_length_le (by simp))
    | simp [List.take_of_length_le]
    | simp
theorem bounds_run {a c n : Nat} (hac : a ≤ c) (hc : c ≤ n) : sliceBounds (some (a : Int)) (some (c : Int)) none n = ((a : Int), (c : Int), 1) := by
  simp only [sliceBounds, Option.getD_none]
  have h1 : ¬ ((a : Int) < 0) := by omega
  have h2 : ¬ ((c : Int) < 0) := by omega
  simp only [h1, h2, if_false, show (1 : Int) > 0 by decide, if_true]
  congr 1
  · omega
  · congr 1; omega
set_option maxRecDepth 100000 in
/-- list.__setitem__ with a slice of step one and another list -/
theorem setItem_slice {l b sl : Addr} {items new : Array Value} {n n2 : Nat} {vl vu : Value} {a c : Nat} {Q : Unit → Shared → Prop}
    (e : s.heap.get? l = some { cls := .type "list", data := .seq items n }) (e2 : s.heap.get? b = some { cls := .type "list", data := .seq new n2 }) (hne : l ≠ b)
    (hs : s.heap.IsSliceOf sl vl vu .none) (pl : IsPart vl (some (a : Int))) (pu : IsPart vu (some (c : Int))) (hac : a ≤ c) (hc : c ≤ items.size)
    (hsz : items.size + new.size ≤ sizeLine) (h : Q () { s with heap := s.heap.update l (Obj.mapSeq fun xs => xs.extract 0 a ++ new ++ xs.extract c xs.size) }) :
    wpAny (model prog w) A (setItem (.ref l) (.ref sl) (.ref b)) Q E s := by
  have hl : s.heap.IsList l items := PySem.IsL.isList e
  have hb : s.heap.IsList b new := PySem.IsL.isList e2
  obtain ⟨os, hos, hcs, hds⟩ := id hs
  have hTs : s.TypeIs (.ref sl) "slice" := ⟨os, hos, hcs⟩
  have hstep : ¬ ((rawPart none == rawInt 0) = true) := Bool.false_ne_true
  have hsame : Builtin.List.listSameRef (.ref l) (.ref b) = false := by
    unfold Builtin.List.listSameRef
    exact beq_eq_false_iff_ne.mpr hne
  have hmax : (max (a : Int) (c : Int)).toNat = c := by omega
  have hz' : ((fun xs : Array Value => xs.extract 0 a ++ new ++ xs.extract c xs.size) items).size ≤ sizeLine + 1 := by
    simp only [Array.size_append, Array.size_extract]
    omega
  unfold setItem
  try with_reducible refine wpAny_holding ?_
  first | refine wpAny_bind (wpAny_pure ?_) | skip
  refine wpAny_bind (wpAny_sequenceKey hl.typeIs (by decide) ?_)
  refine wpAny_bind (wpAny_callSpecial?_slot (name := Str.ofString "__setitem__") hl.typeIs slot_list_setitem
    (wpAny_call_entry slot_list_setitem hl.typeIs entry_list_setitem ?_ (args_list_setitem _ _ _)))
  show wpAny _ _ (Builtin.List.listSubscript? (.ref sl) >>= _) _ _ s
  refine wpAny_bind ?_
  unfold Builtin.List.listSubscript?
  refine wpAny_bind (wpAny_specialOf hTs slice_no_index ?_)
  simp only [Option.isNone_none, if_true]
  refine wpAny_pure ?_
  show wpAny _ _ (typeOf (.ref sl) >>= _) _ _ s
  refine wpAny_bind (wpAny_typeOf hTs ?_)
  first
    | rw [if_neg (by decide)]
    | refine PySem.W.KFB.if_not (by decide) ?_
  rw [listSliceParts_eq]
  refine wpAny_bind (wpAny_bind (wpAny_field hos hds (x := .none) rfl (wpAny_bind (wpAny_listPart .none ?_))))
  rw [if_neg hstep]
  refine wpAny_bind (wpAny_field hos hds (x := vl) rfl (wpAny_bind (wpAny_listPart pl ?_)))
  refine wpAny_bind (wpAny_field hos hds (x := vu) rfl (wpAny_bind (wpAny_listPart pu (wpAny_pure ?_))))
  first
    | simp only [hsame, Bool.false_eq_true, if_false]
    | refine PySem.W.KFB.if_not hsame ?_
    | (dsimp only
       rw [if_neg (by rw [hsame]; exact Bool.false_ne_true)])
  refine wpAny_bind (m := Builtin.List.listAllItems (.ref b) "must assign iterable to extended slice") ?_
  unfold Builtin.List.listAllItems
  refine wpAny_bind (wpAny_typeOf hb.typeIs ?_)
  first
    | refine PySem.W.KFB.if_so (by decide) ?_
    | rw [if_pos (by decide)]
    | simp only [beq_self_eq_true, Bool.true_or, if_true]
  unfold Builtin.List.listItems
  refine wpAny_bind (wpAny_seqItems e2 rfl (wpAny_pure ?_))
  refine wpAny_bind (wpAny_bind (wpAny_seqItems e rfl (wpAny_pure ?_)))
  refine wpAny_bind (wpAny_of_eq ((sliceIndices_raw (some (a : Int)) (some (c : Int)) none items.size (by simp)).trans (congrArg (pure : Int × Int × Int → Sem (Int × Int × Int)) (bounds_run hac hc))) ?_)
  show wpAny _ _ (if ((1 : Int) == 1) = true then _ else _) _ _ s
  rw [if_pos (by decide)]
  refine wpAny_bind (wpAny_rule ?_)
  first
    | simp only [notLongL hsz, Bool.false_eq_true, if_false]
    | refine PySem.W.KFB.if_not (notLongL hsz) ?_
  first | refine wpAny_bind (wpAny_pure ?_) | skip
  show wpAny _ _ (updateSeq l (fun xs => xs.extract 0 ((a : Int)).toNat ++ new ++ xs.extract (max (a : Int) (c : Int)).toNat xs.size) >>= _) _ _ s
  rw [hmax, Int.toNat_natCast]
  refine wpAny_bind (wpAny_updateSeq (hz := Nat.le_trans (Nat.le_add_right _ _) hsz) (_hz' := hz') e rfl ?_)
  refine wpAny_bind (wpAny_letGo ?_)
  first
    | exact wpAny_bind (wpAny_pure (wpAny_pure ⟨.none, rfl, wpAny_pure h⟩))
    | exact wpAny_pure ⟨.none, rfl, wpAny_pure h⟩
end

section
variable {X : Cx}
/-- xs[a:c] = ys of another list, at the value level: sl is the slice object that was just made -/
theorem set_slice {pins : List (Addr × Obj)} {s : Shared} {σ : St} {H : Hp} {l b sl : Addr} {xs ys : List V} {a c : Int} {vl vu : Value} {Q : Unit → Shared → Prop} (I : Inv X pins σ H s)
    (hH : H l = some (.lst xs)) (hB : H b = some (.lst ys)) (hne : l ≠ b) (hs : s.heap.IsSliceOf sl vl vu .none) (ra : RelV (.int a) vl) (rc : RelV (.int c) vu) (h0 : 0 ≤ a) (hac : a ≤ c) (hc : c ≤ xs.length)
    (hz : xs.length + ys.length ≤ sizeLine) (h : ∀ s', Inv X pins σ (upd H l (.lst (xs.take a.toNat ++ ys ++ xs.drop c.toNat))) s' → Q () s') :
    wpAny (model X.prog X.w) X.A (setItem (.ref l) (.ref sl) (.ref b)) Q X.xe s := by
  obtain ⟨ta, rfl⟩ := ra
  obtain ⟨tc, rfl⟩ := rc
  obtain ⟨z, its, n, r, hl, e⟩ := I.lstM hH
  obtain ⟨z2, its2, n2, r2, hl2, e2⟩ := I.lstM hB
  obtain ⟨a', rfl⟩ := Int.eq_ofNat_of_zero_le h0
  obtain ⟨c', rfl⟩ := Int.eq_ofNat_of_zero_le (Int.le_trans h0 hac)
  simp only [Int.toNat_natCast] at h
  refine setItem_slice (a := a') (c := c') e e2 hne hs (.int _ _) (.int _ _) (by omega) (by rw [List.size_toArray]; omega) (by rw [List.size_toArray, List.size_toArray]; omega) (h _ ?_)
  refine I.lset (its' := its.take a' ++ its2 ++ its.drop c') (t' := s.toks) hH e ?_ (Vals.append (Vals.append (r.take _) r2) (r.drop _)) ?_
  · exact splice_eq its its2 a' c'
  · rw [List.length_append, List.length_append, List.length_take, List.length_drop]
    omega
end
end L2

namespace Att
open PySem PySem.W PySem.Calls PyProof.Rows

/-! ### the script -/
theorem ints_of_wellAll {P : Params} {h : Heap} : ∀ (ns : List Int) (vs : List Value), WellAll P h vs (ns.map WData.int) → IntsAre vs ns := by
  intro ns
  induction ns with
  | nil =>
    intro vs w
    rw [List.map_nil] at w
    cases w
    exact .nil
  | cons n ns ih =>
    intro vs w
    rw [List.map_cons] at w
    cases w with
    | cons a b =>
      cases a
      exact .cons _ _ (ih _ b)

theorem script_of {l : OpenLaw} {n : Nat} (hn : l.most = some n) {P : Params} {h : Heap} {args : List WData} {vals : List Value}
    (hpre : l.row.toRowW.claim.pre args = true) (hwl : WellAll P h vals args) :
    ∃ a vs ns, vals = [Value.ref a] ∧ args = [WData.list (ns.map WData.int)] ∧ h.get? a = some { cls := .type "list", data := .seq vs.toArray } ∧ IntsAre vs ns ∧ ns.length ≤ n := by
  have hsh : WShape.hasAll [] args [.list .int] = true := (pre_splitW hpre).1
  have hc : l.pre.holds [] { args := args } = true := (pre_splitW hpre).2
  obtain ⟨d, r, rfl, h1, h2⟩ := hasAllW_cons hsh
  obtain rfl := hasAllW_nil h2
  obtain ⟨xs, rfl, h3⟩ := hasW_list h1
  obtain ⟨ns, rfl⟩ := items_int h3
  have hlen : ns.length ≤ n := by
    unfold OpenLaw.pre at hc
    have h4 : (WTm.not (.lt (.lit (.int (n : Int))) (.len (.arg 0)))).holds [] { args := [.list (ns.map .int)] } = true := by
      have h4 := (holds_andW hc).1
      rw [hn] at h4
      exact h4
    have h5 := condW_of h4 (w_not (w_lt w_lit (w_len_list (w_arg rfl))))
    rw [List.length_map] at h5
    refine Nat.le_of_not_lt fun q => ?_
    have q' : (n : Int) < ((ns.length : Nat) : Int) := by omega
    first
      | (rw [decide_eq_true q'] at h5; exact absurd h5 (by decide))
      | (simp at h5; omega)
  cases hwl with
  | cons w1 w2 =>
    cases w2
    cases w1 with
    | list ho hall => exact ⟨_, _, ns, rfl, rfl, ho, ints_of_wellAll ns _ hall, hlen⟩

theorem post_true (l : OpenLaw) (args : List WData) : l.row.toRowW.claim.post args (.bool true) args = true :=
  postW_of (r := l.row.toRowW) (X := (true == true))
    (show WShape.has [] (.bool true) .bool = true by first | rfl | decide | simp [WShape.has, WShape.arms, WShape.armsAll])
    (show (WTm.eq .res (.lit (.bool true))).value [] { args := args, res := some (.bool true), after := args } = some (.bool (true == true)) from w_eq_bool (w_res rfl) w_lit) rfl

/-! ### the attachment: holds_open's last premise (the goal 'hc' behind k_head) from a wpAny of the law's body -/
theorem attach {l : OpenLaw} {n : Nat} {q : Program} {loose : List Str} {XP : (Str → Option Value) → Heap → Prop} {YP : World → Heap → Prop} {d : DefRec} {x : Str}
    (hn : l.most = some n) (hdf : d.params.defaults = [])
    (hbind : ∀ pm cd doc v : Value, bindArgs (docDef d.name d.params d.body d.scope pm cd doc) ⟨[v], []⟩ = pure [(x, v)])
    (hx : d.scope.names.lookup x = some .local ∨ d.scope.names.lookup x = some .cell)
    (hk : d.scope.kind = .function) (hco : d.scope.isCoroutine = false) (hgen : d.scope.isGenerator = false)
    (body : ∀ (w : World) (s₀ s₁ s : Shared) (mg mb : Str → Option Value) (fa : Addr) (o : Obj) (pm cd doc : Value) (a : Addr) (vs : List Value) (ns : List Int),
      Ground q loose [] XP w s₀ mg mb s₁.heap → YP w s₁.heap →
      s₁.heap.get? fa = some o → o.data = .func (docDef d.name d.params d.body d.scope pm cd doc) → s₁.heap.CodeRec cd d.name → mg d.name = some (.ref fa) →
      s₁.heap.get? a = some { cls := .type "list", data := .seq vs.toArray } → IntsAre vs ns → ns.length ≤ n →
      s.gens = #[] → s.os = s₁.os →
      Fr s₁.heap s₁.heap.objs.size s.heap (bindL (envOfC d.name d.scope s₁.heap.objs.size fa cd).kindOf [(x, .ref a)] fun _ => none) →
      Cl s₁.heap.objs.size (cellsFrom (s₁.heap.objs.size + 1) d.scope.names []) s.heap (bindC (envOfC d.name d.scope s₁.heap.objs.size fa cd).kindOf [(x, .ref a)] fun _ => none) →
      wpAny (model l.prog w) (callerA.deeper (envOfC d.name d.scope s₁.heap.objs.size fa cd)) (execs d.body (envOfC d.name d.scope s₁.heap.objs.size fa cd))
        (fun f s' => f = .ret (.bool true) ∧ OldK s₁.heap s'.heap ∧ s'.os = s₁.os ∧ AllBare s'.gens) (fun _ _ => False) s) :
    WalkO q loose XP YP l.row.toRowW d [] (fun f vs => PySem.call f vs) := by
  intro w s₀ s₁ mg mb G Y fa o pm cd doc dV kV ho hd hcd hD hmg hg args vals as hpre hlay hrd hwl hlo
  obtain rfl : dV = .none := Dflts.none hD hdf
  obtain rfl : kV = .none := Dflts.noKw hD
  obtain ⟨a, vs, ns, rfl, rfl, hobj, hints, hlen⟩ := script_of hn hpre hwl
  refine enter_call ?_
  refine call_cells_ret (o := o) (by rw [depth_caller]; decide) ho (fd_plain hd) G.T.nolimit hcd (hbind pm cd doc (.ref a)) (fun y hy => ?_) (fun h₁ tk F X => ?_) hco hgen hk
  · obtain rfl : y = (x, Value.ref a) := List.mem_singleton.mp hy
    rcases hx with e | e
    · exact .inl e
    · exact .inr ⟨e, cellsFrom_some _ _ _ (.inl e)⟩
  · refine wpAny_mono (body w s₀ s₁ { s₁ with heap := h₁, toks := tk } mg mb fa o pm cd doc a vs ns G Y ho (fd_plain hd) hcd hmg hobj hints hlen hg rfl F X) (fun f s' hq => ?_) (fun _ _ hq => hq)
    obtain ⟨rfl, h2, h3, h4⟩ := hq
    exact ⟨.inl ⟨.bool true, .bool true, [], rfl, fun _ => rfl, .bool true, post_true l _, fun _ => ⟨List.Pairwise.nil, fun _ hm => (nomatch hm)⟩⟩, h2, h3, h4⟩

/-- the same from a codeAny of the CALL (for a layer whose function contracts speak of calls) -/
theorem attach_call {l : OpenLaw} {n : Nat} {q : Program} {loose : List Str} {XP : (Str → Option Value) → Heap → Prop} {YP : World → Heap → Prop} {d : DefRec}
    (hn : l.most = some n) (hdf : d.params.defaults = [])
    (call : ∀ (w : World) (s₀ s₁ : Shared) (mg mb : Str → Option Value) (fa : Addr) (o : Obj) (pm cd doc : Value) (a : Addr) (vs : List Value) (ns : List Int),
      Ground q loose [] XP w s₀ mg mb s₁.heap → YP w s₁.heap →
      s₁.heap.get? fa = some o → o.data = .func (docDef d.name d.params d.body d.scope pm cd doc) → s₁.heap.CodeRec cd d.name → mg d.name = some (.ref fa) →
      s₁.heap.get? a = some { cls := .type "list", data := .seq vs.toArray } → IntsAre vs ns → ns.length ≤ n → s₁.gens = #[] →
      codeAny (model l.prog w) callerA (.call (.ref fa) ⟨[.ref a], []⟩) (fun r s' => r = .ok (.ret (.bool true)) ∧ OldK s₁.heap s'.heap ∧ s'.os = s₁.os ∧ AllBare s'.gens) s₁) :
    WalkO q loose XP YP l.row.toRowW d [] (fun f vs => PySem.call f vs) := by
  intro w s₀ s₁ mg mb G Y fa o pm cd doc dV kV ho hd hcd hD hmg hg args vals as hpre hlay hrd hwl hlo
  obtain rfl : dV = .none := Dflts.none hD hdf
  obtain rfl : kV = .none := Dflts.noKw hD
  obtain ⟨a, vs, ns, rfl, rfl, hobj, hints, hlen⟩ := script_of hn hpre hwl
  refine enter_call (codeAny_mono (call w s₀ s₁ mg mb fa o pm cd doc a vs ns G Y ho (fd_plain hd) hcd hmg hobj hints hlen hg) fun r s' hq => ?_)
  obtain ⟨rfl, h2, h3, h4⟩ := hq
  exact ⟨.inl ⟨.bool true, .bool true, [], rfl, fun _ => rfl, .bool true, post_true l _, fun _ => ⟨List.Pairwise.nil, fun _ hm => (nomatch hm)⟩⟩, h2, h3, h4⟩

/-- the same where the top left finished generators (o_head chose holds_openN): nothing may have changed at all and no generator may be left -/
theorem attachN {l : OpenLaw} {n : Nat} {q : Program} {loose : List Str} {XP : (Str → Option Value) → Heap → Prop} {YP : World → Heap → Prop} {d : DefRec} {x : Str}
    (hn : l.most = some n) (hdf : d.params.defaults = [])
    (hbind : ∀ pm cd doc v : Value, bindArgs (docDef d.name d.params d.body d.scope pm cd doc) ⟨[v], []⟩ = pure [(x, v)])
    (hx : d.scope.names.lookup x = some .local ∨ d.scope.names.lookup x = some .cell)
    (hk : d.scope.kind = .function) (hco : d.scope.isCoroutine = false) (hgen : d.scope.isGenerator = false)
    (body : ∀ (w : World) (s₀ s₁ s : Shared) (mg mb : Str → Option Value) (fa : Addr) (o : Obj) (pm cd doc : Value) (a : Addr) (vs : List Value) (ns : List Int),
      Ground q loose [] XP w s₀ mg mb s₁.heap → YP w s₁.heap →
      s₁.heap.get? fa = some o → o.data = .func (docDef d.name d.params d.body d.scope pm cd doc) → s₁.heap.CodeRec cd d.name → mg d.name = some (.ref fa) →
      s₁.heap.get? a = some { cls := .type "list", data := .seq vs.toArray } → IntsAre vs ns → ns.length ≤ n →
      s.gens = #[] → s.os = s₁.os →
      Fr s₁.heap s₁.heap.objs.size s.heap (bindL (envOfC d.name d.scope s₁.heap.objs.size fa cd).kindOf [(x, .ref a)] fun _ => none) →
      Cl s₁.heap.objs.size (cellsFrom (s₁.heap.objs.size + 1) d.scope.names []) s.heap (bindC (envOfC d.name d.scope s₁.heap.objs.size fa cd).kindOf [(x, .ref a)] fun _ => none) →
      wpAny (model l.prog w) (callerA.deeper (envOfC d.name d.scope s₁.heap.objs.size fa cd)) (execs d.body (envOfC d.name d.scope s₁.heap.objs.size fa cd))
        (fun f s' => f = .ret (.bool true) ∧ (∀ b o, s₁.heap.get? b = some o → s'.heap.get? b = some o) ∧ s'.os = s₁.os ∧ s'.gens = #[]) (fun _ _ => False) s) :
    WalkN q loose XP YP l.row.toRowW d [] (fun f vs => PySem.call f vs) := by
  intro w s₀ s₁ mg mb G Y fa o pm cd doc dV kV ho hd hcd hD hmg hg args vals as hpre hlay hrd hwl hlo
  obtain rfl : dV = .none := Dflts.none hD hdf
  obtain rfl : kV = .none := Dflts.noKw hD
  obtain ⟨a, vs, ns, rfl, rfl, hobj, hints, hlen⟩ := script_of hn hpre hwl
  refine enter_callW ?_
  refine call_cells_ret (o := o) (by rw [depth_caller]; decide) ho (fd_plain hd) G.T.nolimit hcd (hbind pm cd doc (.ref a)) (fun y hy => ?_) (fun h₁ tk F X => ?_) hco hgen hk
  · obtain rfl : y = (x, Value.ref a) := List.mem_singleton.mp hy
    rcases hx with e | e
    · exact .inl e
    · exact .inr ⟨e, cellsFrom_some _ _ _ (.inl e)⟩
  · refine wpAny_mono (body w s₀ s₁ { s₁ with heap := h₁, toks := tk } mg mb fa o pm cd doc a vs ns G Y ho (fd_plain hd) hcd hmg hobj hints hlen hg rfl F X) (fun f s' hq => ?_) (fun _ _ hq => hq)
    obtain ⟨rfl, h2, h3, h4⟩ := hq
    exact ⟨.inl ⟨.bool true, .bool true, [], rfl, fun _ => rfl, .bool true, post_true l _, fun _ => ⟨List.Pairwise.nil, fun _ hm => (nomatch hm)⟩⟩, h2, h3, h4⟩

/-! ### rules over ANY heap (no ledger) from facts about the written part K: the library's own take a ledger (News) for what they write -/
section
variable {prog : Program} {w : World} {A : Around} {E : Value → Shared → Prop} {s : Shared} {K : Frag}

/-- a def of the module, or a method (qual 'C.m'), entered: the frame is the next address; cells behind it -/
theorem call_fn {R : Result → Shared → Prop} {name qual : Str} {params : Arguments} {body : List Stmt} {scope : Scope} {dV kV doc pm cdv ct oc : Value} {an od : Option Addr} {osl : Array (Option Value)} {f : Addr} {args : Args} {binds : List (Str × Value)}
    (X : K.In s.heap) (hlim : s.heap.NoLimit) (ho : K.lookup f = some ⟨oc, od, .func (fnOf name qual params body scope dV kV doc pm an cdv ct), osl⟩) (hcd : codeIn K cdv qual = true) (hroom : A.depth < recursionLimit)
    (hbind : BindsTo s (fnOf name qual params body scope dV kV doc pm an cdv ct) args binds)
    (hkind : (binds.all fun y => scope.names.lookup y.1 == some .local || scope.names.lookup y.1 == some .cell) = true)
    (h : ∀ s₁, InCallC s s.heap.objs.size (bindL (envOfC qual scope s.heap.objs.size f cdv).kindOf binds fun _ => none) (cellsFrom (s.heap.objs.size + 1) scope.names [])
        (bindC (envOfC qual scope s.heap.objs.size f cdv).kindOf binds fun _ => none) s₁ →
      wpAny (model prog w) (A.deeper (envOfC qual scope s.heap.objs.size f cdv)) (execs body (envOfC qual scope s.heap.objs.size f cdv))
        (fun fl s' => R (.ok (.ret (match fl with | .ret v => v | _ => .none))) s')
        (fun e s' => wpAny (model prog w) (A.deeper (envOfC qual scope s.heap.objs.size f cdv)) (leaving (envOfC qual scope s.heap.objs.size f cdv) e) (fun _ s'' => R (.error e) s'') (fun e' s'' => R (.error e') s'') s') s₁)
    (hco : scope.isCoroutine = false) (hgen : scope.isGenerator = false) (hk : scope.kind = .function) : codeAny (model prog w) A (.call (.ref f) args) R s := by
  refine codeAny_call_function hroom (X _ _ ho) rfl hco hgen rfl (codeRec_of X hcd) (hbind _ _ _ _ ?_)
  refine wpAny_newFunctionEnv_cells hk (kindsX hkind _) fun env he s₁ x => ?_
  subst he
  exact ⟨hlim.keeps x.toInCall.keep, codeAny_func (h s₁ x)⟩

/-- C(..): dict at size, instance at size + 1, then __init__ -/
theorem make_obj {R : Result → Shared → Prop} {C fI : Addr} {rest : List Value} {kw : List (Str × Value)}
    (X : K.In s.heap) (hm : makesIn K C = true) (hi : findIn K (.ref C) "__init__" = some (some (.ref fI))) (hf : isFn K (.ref fI) = true)
    (h : codeAny (model prog w) (A.under (.builtin "type.__call__" ⟨.ref C :: rest, kw⟩)) (.call (.ref fI) ⟨.ref (s.heap.objs.size + 1) :: rest, kw⟩) (InitBack (s.heap.objs.size + 1) R)
      { s with heap := (s.heap.push emptyDict).push (instObj C s.heap.objs.size) }) : codeAny (model prog w) A (.call (.ref C) ⟨rest, kw⟩) R s := by
  obtain ⟨hh, g, d, t, os⟩ := s
  exact make_core (makes_of X hm) (looks_findIn X hi) (fun self => bind_fn X self (beq_iff_eq.mp hf)) (.inl rfl) h

/-- x.name where the instance's dict holds the name and the class does not -/
theorem get_field {x C : Addr} {ox : Obj} {es : List DictEntry} {n : Nat} {name : Str} {expr : Bool} {v : Value} {Q : Value → Shared → Prop}
    (X : K.In s.heap) (I : PySem.W.InstAt s.heap x ox C (some (dictOf es n))) (hg : plainGet K C name = true) (hh : hasDictIn K C = true) (ha : findIn K (.ref C) name = some none)
    (hl : getL name es = some (some v)) (hv : handedIn v = true) (h : Q v { s with toks := s.toks + 1 }) : wpAny (model prog w) A (getAttr (.ref x) name expr) Q E s :=
  get_value X I (plainGet_of hg).1 (findObj_own hh ha rfl hl) hv h

/-- x.m(..): the method found in the class -/
theorem get_method {x C f : Addr} {ox : Obj} {es : List DictEntry} {n : Nat} {name : Str} {pl : Sem Bool} {Q : Value × List Value → Shared → Prop}
    (X : K.In s.heap) (I : PySem.W.InstAt s.heap x ox C (some (dictOf es n))) (hg : plainGet K C name = true) (hf : findIn K (.ref C) name = some (some (.ref f))) (ht : isFn K (.ref f) = true)
    (hl : getL name es = some none) (h : Q (.ref f, [.ref x]) s) : wpAny (model prog w) A (getMethod (.ref x) name pl) Q E s :=
  method_fn X I (plainGet_of hg).1 (plainGet_of hg).2 hf (beq_iff_eq.mp ht) (by show (lookIn name (dictOf es n)).map _ = _; rw [lookIn_dict, hl]; rfl) h

/-! the whole heap as the ledger: makes every rule that writes through a ledger a rule over any heap -/
def noObjs (h : Heap) : Heap := { h with objs := #[] }
theorem noObjs_get (h : Heap) (b : Addr) : (noObjs h).get? b = none := by
  cases e : (noObjs h).get? b with
  | none => rfl
  | some o => exact absurd (Heap.lt_size e) (Nat.not_lt_zero _)
def ledger (h : Heap) (L d : Addr) : List (Addr × Obj) := (List.range h.objs.size).filterMap fun a => if a = L ∨ a = d then none else (h.get? a).map fun o => (a, o)
theorem mem_ledger {h : Heap} {L d a : Addr} {o : Obj} : (a, o) ∈ ledger h L d ↔ a ≠ L ∧ a ≠ d ∧ h.get? a = some o := by
  unfold ledger
  rw [List.mem_filterMap]
  constructor
  · rintro ⟨b, _, e⟩
    split at e
    · cases e
    · rename_i hb
      obtain ⟨o', ho, e'⟩ := Option.map_eq_some_iff.mp e
      cases e'
      exact ⟨fun q => hb (.inl q), fun q => hb (.inr q), ho⟩
  · rintro ⟨n1, n2, ho⟩
    refine ⟨a, List.mem_range.mpr (Heap.lt_size ho), ?_⟩
    rw [if_neg (show ¬ (a = L ∨ a = d) from fun q => q.elim n1 n2), ho] <;> rfl
theorem news_ledger {h : Heap} {L d : Addr} {od : Obj} (hne : d ≠ L) (ho : h.get? d = some od) : News (noObjs h) L h ([] ++ (d, od) :: ledger h L d) := by
  rintro ⟨a, o⟩ hp
  rcases List.mem_cons.mp hp with e | hp
  · cases e
    exact ⟨ho, hne, noObjs_get _ _⟩
  · obtain ⟨n1, n2, e⟩ := mem_ledger.mp hp
    exact ⟨e, n1, noObjs_get _ _⟩
theorem fr_all {h : Heap} {L : Addr} {m : Str → Option Value} (n : h.Ns L m) : Fr (noObjs h) L h m :=
  ⟨n, fun b o e => (by rw [noObjs_get] at e; cases e), Nat.zero_le _⟩
/-- Upd of the head entry (for append_K, setItem_K ..) -/
theorem upd_ledger {h : Heap} {L d : Addr} {o o' : Obj} : Upd d o o' ((d, o) :: ledger h L d) ((d, o') :: ledger h L d) :=
  .head fun ⟨_, _⟩ hp => (mem_ledger.mp hp).2.1

/-- x.name = v over any heap: L is any namespace of the heap (the frame's, say): its map stays, its object is not told; all else but the dict stays -/
theorem set_field {x C dx L : Addr} {ox : Obj} {m : Str → Option Value} {es es' : List DictEntry} {n n' : Nat} {name : Str} {v : Value} {Q : Unit → Shared → Prop}
    (X : K.In s.heap) (I : PySem.W.InstAt s.heap x ox C (some (dictOf es n))) (hd : ox.dict = some dx) (hL : s.heap.Ns L m) (hne : dx ≠ L)
    (hs : findIn K (.ref C) "__setattr__" = some (some (.builtin "object.__setattr__"))) (hp : plainOver K C = true) (ht : takerIn K C name = some none) (hh : hasDictIn K C = true) (hl : (getL name es).isSome = true)
    (e : (putL name (PyData.keyHash w.params name) (.str name (s.toks + 1)) v es, putN name es n) = (es', n')) (hz : es'.length ≤ 1000)
    (h : ∀ h' : Heap, h'.Ns L m → h'.get? dx = some (dictOf es' n') → (∀ b o, b ≠ dx → b ≠ L → s.heap.get? b = some o → h'.get? b = some o) → Q () { s with heap := h', toks := s.toks + 2 }) :
    wpAny (model prog w) A (setAttr (.ref x) name v) Q E s := by
  obtain ⟨e1, e2⟩ := Prod.mk.inj e
  have hdx : s.heap.get? dx = some (dictOf es n) := by
    have := I.dict
    rw [hd] at this
    exact this
  refine set_plain X I hs (osa_dict (s := { s with toks := s.toks + 1 }) (h₀ := noObjs s.heap) (L := L) (m := m) (od := dictOf es n) (od' := dictOf es' n') (es := es') (n := n') (pre := []) (post := ledger s.heap L dx)
    (fr_all hL) (news_ledger hne hdx) X I hd hp ht hh hl (fun _ q => nomatch q) (fun ⟨_, _⟩ q => (mem_ledger.mp q).2.1) (by rw [putName_dict, e1, e2]) rfl hz fun h' F' N' => ?_)
  exact h h' F'.ns (N'.get (List.Mem.head _)) fun b o n1 n2 ho => N'.get (List.Mem.tail _ (mem_ledger.mpr ⟨n2, n1, ho⟩))
end
end Att

namespace L2
open PySem PySem.Spec PyProof.Rows

theorem vals_ints : ∀ {vs : List Value} {ns : List Int}, IntsAre vs ns → Vals (ns.map V.int) vs
  | _, _, .nil => .nil
  | _, _, .cons n t h => .cons ⟨t, rfl⟩ (vals_ints h)

/-- nothing is tracked but the script, known to the object (or it is an object of the module) -/
def Only (H : Hp) : Prop := ∀ b, H b = none ∨ ∃ o xs, H b = some (.frz o (.lst xs))

/-- THE HEAD: the law's promise, at the heap behind the top. F, the promise of the law's def, may use that base is part of the heap (so K.In base, base.Ns mainGlobals mg stand in Mod) -/
theorem law_call {P : Program} {w : World} {K : PySem.W.Frag} {mg mb : Str → Option Value} {CX : CXT} {k : Nat} {fa a : Addr} {fd : FuncData} {x : Str} {sp : Sp} {s₁ : Shared} {vs : List Value} {ns : List Int}
    (KX : K.In s₁.heap) (hns : s₁.heap.Ns mainGlobals mg) (hb : s₁.heap.Ns builtinsNs mb) (hbb : ∀ x : Str, x ≠ "__name__" → mb x = bootBuiltins x) (hlim : s₁.heap.NoLimit) (hg : s₁.gens = #[])
    (ha : s₁.heap.get? a = some { cls := .type "list", data := .seq vs.toArray }) (hi : IntsAre vs ns) (hl : ns.length ≤ sizeLine) (hr : Room k callerA)
    (F : ∀ base : Heap, K.In base → base.Ns mainGlobals mg → FnOk P w K mg base CX k fa fd [x] sp) (hbind : ∀ (s : Shared) (u : Value), BindsTo s fd ⟨[u], []⟩ [(x, u)])
    (hsp : ∀ H : Hp, Only H → SqL K H a (ns.map V.int) → sp [.ref a] H (fun v _ => v = .bl true) fun _ _ _ => False)
    (hCX : ∀ H e s', CX [] H s₁ (fun _ _ _ => False) e s' → False) :
    codeAny (model P w) callerA (.call (.ref fa) ⟨[.ref a], []⟩) (fun r s' => r = .ok (.ret (.bool true)) ∧ OldK s₁.heap s'.heap ∧ s'.os = s₁.os ∧ AllBare s'.gens) s₁ := by
  have rv := vals_ints hi
  have lenV := hi.length
  -- from an abstract heap in which nothing but the script may be tracked
  have core : ∀ H : Hp, Only H → SqL K H a (ns.map V.int) → HOk P w H s₁.heap → (∀ b, H b ≠ none → b = a) → (H a ≠ none → K.lookup a = none) →
      codeAny (model P w) callerA (.call (.ref fa) ⟨[.ref a], []⟩) (fun r s' => r = .ok (.ret (.bool true)) ∧ OldK s₁.heap s'.heap ∧ s'.os = s₁.os ∧ AllBare s'.gens) s₁ := by
    intro H hO hS hok hA hK
    have base_of : ∀ {b : Addr} {o : Obj}, s₁.heap.get? b = some o → H b = none → (hidT s₁.heap H).get? b = some o := fun e n => hidT_get e n
    have noA : ∀ {b : Addr} {o : Obj} {es : Array DictEntry} {ep : Nat}, s₁.heap.get? b = some o → o.data = .dict es ep → H b = none := fun {b o es ep} e d => by
      cases q : H b with
      | none => rfl
      | some u =>
        have e' : b = a := hA b (by rw [q]; simp)
        subst e'
        rw [ha] at e; cases e
        have d' : Data.seq vs.toArray _ = Data.dict es ep := d
        cases d'
    have nsK : ∀ {b : Addr} {m : Str → Option Value}, s₁.heap.Ns b m → (hidT s₁.heap H).Ns b m := fun {b m} ⟨o, es, ep, e, d, r⟩ => ⟨o, es, ep, base_of e (noA e d), d, r⟩
    have hKb : K.In (hidT s₁.heap H) := fun b o e => base_of (KX b o e) (by
      cases q : H b with
      | none => rfl
      | some u =>
        have e' : b = a := hA b (by rw [q]; simp)
        subst e'
        rw [hK (by rw [q]; simp)] at e; cases e)
    have hM : Mod K mg (hidT s₁.heap H) := ⟨hKb, nsK hns, ⟨mb, nsK hb, hbb⟩, let ⟨mc, h1, h2⟩ := hlim; ⟨mc, nsK h1, h2⟩⟩
    have e0 : Env0 P w K mg (hidT s₁.heap H) callerA [] s₁ H := ⟨rfl, hM, fun b o e => of_hidT e, Nat.le_of_eq (hidT_size _ _), trivial, fun b hb => absurd (show b ∈ ([] : List Addr) from hb) (by simp), hok, .of_eq hg⟩
    refine codeAny_mono ((F _ hKb (nsK hns)).run callerA [] s₁ H ⟨[.ref a], []⟩ [.ref a] [.ref a] _ _ hr e0 (hbind s₁ (.ref a)) (.cons rfl .nil) (hsp H hO hS)) fun r s' h => ?_
    cases r with
    | error e => exact (hCX H e s' h).elim
    | ok fl =>
      cases fl with
      | next => exact False.elim h
      | brk => exact False.elim h
      | cont => exact False.elim h
      | ret u =>
        obtain ⟨v, H', os, bare, un, hok', r', q⟩ := h
        have q' : v = .bl true := q
        subst q'
        obtain rfl : u = Value.bool true := r'
        refine ⟨rfl, OldK.of_keep fun b o e => ?_, os, bare⟩
        cases q : H b with
        | none => exact un.keep b o e q (by intro z; exact absurd (show b ∈ ([] : List Addr) from z) (by simp)) (by simp)
        | some u =>
          rcases hO b with z | ⟨ob, xs, z⟩
          · rw [q] at z; cases z
          · have z2 := un.frzs b ob _ z
            obtain ⟨e1, _⟩ := hok b _ z
            obtain ⟨e2, _⟩ := hok' b _ z2
            rw [e] at e1; cases e1
            exact e2
  cases hk : K.lookup a with
  | some o =>
    -- the script is one of the module's own objects
    have e := KX a o hk
    rw [ha] at e
    cases e
    refine core (fun _ => none) (fun _ => .inl rfl) (.inr ⟨_, vs.toArray, _, hk, rfl, rfl, rfl, by rw [List.size_toArray, lenV]; exact hl, by simpa using rv⟩) (fun b u z => by have z' : (none : Option HO) = some u := z; cases z') (fun b z => absurd rfl z) fun z => absurd rfl z
  | none =>
    refine core (fun b => if b = a then some (.frz { cls := .type "list", data := .seq vs.toArray } (.lst (ns.map V.int))) else none) (fun b => ?_) (.inl (.inr ⟨{ cls := .type "list", data := .seq vs.toArray }, if_pos rfl⟩)) (fun b u z => ?_) (fun b z => ?_) fun _ => hk
    · by_cases hb : b = a
      · exact .inr ⟨_, _, if_pos hb⟩
      · exact .inl (if_neg hb)
    · by_cases hb : b = a
      · have z' := (if_pos hb).symm.trans z
        cases z'
        subst hb
        exact ⟨ha, by rw [List.length_map]; exact hl, vs, _, rv, ha⟩
      · have z' := (if_neg hb).symm.trans z
        cases z'
    · by_cases hb : b = a
      · exact hb
      · exact absurd (if_neg hb) z
end L2

namespace L2
open PySem PySem.Spec PyProof.Rows

abbrev KOf {K : PySem.W.Frag} {h : Heap} (_ : K.In h) : PySem.W.Frag := K

/-- the goal that k_head leaves (case hc), from the law's promise. F gives the function object fd (K's own) once, then the promise over every base -/
theorem walk_of {l : PySem.W.OpenLaw} {n k : Nat} {q : Program} {loose : List Str} {XP : (Str → Option Value) → Heap → Prop} {YP : World → Heap → Prop} {d : DefRec} {K : Params → PySem.W.Frag} {CX : World → CXT} {sp : World → Sp} {x : Str}
    (hn : l.most = some n) (hn2 : n ≤ sizeLine) (hdf : d.params.defaults = []) (hr : Room k callerA)
    (hY : ∀ (w : World) (h : Heap), YP w h → (K w.params).In h)
    (F : ∀ (w : World) (mg : Str → Option Value) (fa : Addr) (h : Heap), (K w.params).In h → h.Ns mainGlobals mg → mg d.name = some (.ref fa) →
      ∃ fd : FuncData, (∀ (s : Shared) (u : Value), BindsTo s fd ⟨[u], []⟩ [(x, u)]) ∧
        ∀ base : Heap, (K w.params).In base → base.Ns mainGlobals mg → FnOk l.prog w (K w.params) mg base (CX w) k fa fd [x] (sp w))
    (hsp : ∀ (w : World) (H : Hp) (a : Addr) (ns : List Int), ns.length ≤ n → Only H → SqL (K w.params) H a (ns.map V.int) → sp w [.ref a] H (fun v _ => v = .bl true) fun _ _ _ => False)
    (hCX : ∀ (w : World) (H : Hp) (s : Shared) (e : Value) (s' : Shared), CX w [] H s (fun _ _ _ => False) e s' → False) :
    PySem.W.WalkO q loose XP YP l.row.toRowW d [] (fun f vs => PySem.call f vs) := by
  refine Att.attach_call hn hdf fun w s₀ s₁ mg mb fa o pm cd doc a vs ns G Y ho hd hcd hmg hobj hints hlen hg => ?_
  have KX := hY w _ Y
  obtain ⟨fd, hb, hF⟩ := F w mg fa _ KX G.T.g hmg
  exact law_call KX G.T.g G.T.b G.T.builtins G.T.nolimit hg hobj hints (Nat.le_trans hlen hn2) hr hF hb (fun H hO hS => hsp w H a ns hlen hO hS) fun H e s' => hCX w H s₁ e s'
/-- the same where the promise hangs on the written part alone: (sp := My.sp_law), no hole under a binder -/
theorem walk_ofK {l : PySem.W.OpenLaw} {n k : Nat} {q : Program} {loose : List Str} {XP : (Str → Option Value) → Heap → Prop} {YP : World → Heap → Prop} {d : DefRec} {K : Params → PySem.W.Frag} {CX : CXT} {sp : PySem.W.Frag → Sp} {x : Str}
    (hn : l.most = some n) (hn2 : n ≤ sizeLine) (hdf : d.params.defaults = []) (hr : Room k callerA)
    (hY : ∀ (w : World) (h : Heap), YP w h → (K w.params).In h)
    (F : ∀ (w : World) (mg : Str → Option Value) (fa : Addr) (h : Heap), (K w.params).In h → h.Ns mainGlobals mg → mg d.name = some (.ref fa) →
      ∃ fd : FuncData, (∀ (s : Shared) (u : Value), BindsTo s fd ⟨[u], []⟩ [(x, u)]) ∧
        ∀ base : Heap, (K w.params).In base → base.Ns mainGlobals mg → FnOk l.prog w (K w.params) mg base CX k fa fd [x] (sp (K w.params)))
    (hsp : ∀ (K : PySem.W.Frag) (H : Hp) (a : Addr) (ns : List Int), ns.length ≤ n → Only H → SqL K H a (ns.map V.int) → sp K [.ref a] H (fun v _ => v = .bl true) fun _ _ _ => False)
    (hCX : ∀ (H : Hp) (s : Shared) (e : Value) (s' : Shared), CX [] H s (fun _ _ _ => False) e s' → False) :
    PySem.W.WalkO q loose XP YP l.row.toRowW d [] (fun f vs => PySem.call f vs) :=
  walk_of (K := K) (CX := fun _ => CX) (sp := fun w => sp (K w.params)) hn hn2 hdf hr hY F (fun w H a ns h1 h2 h3 => hsp (K w.params) H a ns h1 h2 h3) fun _ H s e s' => hCX H s e s'
end L2

/- THE LAST THEOREM (shape; LID, My.* are yours):
   My.Adr: a structure of the addresses that your layer names (classes, functions); My.Txt K t: a structure (Prop) of the equations over K;
   My.txt_mk : {K} {implicit addresses ..} (e1 : nsIn K mainGlobals "law" = some (some (.ref f))) (e2 : K.lookup f = some ⟨oc, od, .func (fnOf "law" "law" params body scope dV kV doc pm an cdv ct), sl⟩) (e3 : codeIn K cdv "law" = true) .. : ∃ t, My.Txt K t

set_option maxRecDepth 100000 in
set_option maxHeartbeats 0 in
theorem PySem.Challenge.cw_LID_holds : PySem.Challenge.rw_LID.Holds := by
  w_on; o_law; k_head; (case hw => w_witness2)
  k_fill
  refine L2.walk_of (l := PySem.Challenge.rw_LID) (n := 63) (k := 40) (x := "script") (CX := fun w => ..) (sp := fun _ => My.sp_law) rfl (by decide) rfl ⟨rfl, by decide, by decide⟩ (fun w h Y => PySem.W.kIn_of Y) ?F ?S ?C
  case F =>
    intro w mg fa h KX G hmg
    have T : ∃ t, My.Txt (L2.KOf KX) t := by
      dsimp only [L2.KOf]                          -- K must stand as «<heap const> w.params» for k_is
      refine' My.txt_mk ?e1 ?e2 ?e3 ..
      (case e1 => PySem.W.k_is)                    -- in the order: a name -> its address -> its object -> its parts
      (case e2 => PySem.W.k_is)
      ..
    obtain ⟨t, T⟩ := T
    have e0 := hmg.symm.trans (PySem.W.mg_of KX G T.law)
    cases e0                                       -- fa is the law's own address
    exact ⟨_, fun s u => .of_eq rfl, fun base kb nb => My.law_fn T kb nb⟩     -- if «.of_eq rfl» comes too early: refine' ⟨_, ?b, fun base kb nb => My.law_fn T kb nb⟩; exact fun s u => .of_eq rfl
  case S => exact fun w H a ns hl hO hS => ..
  case C => exact ..
(the tactic k_is has no namespace: write k_is) -/

/-! SHORT WORDS over the layer: a def of the text, its body, what a loop and a test want. -/
namespace L2
open PySem PySem.Spec PyProof.Rows

/-! ### the text by places -/
/-- the j-th statement of a class's body -/
def inClass (s : Stmt) (j : Nat) : Stmt := match s with
  | .ClassDef _ _ _ body _ _ _ _ _ _ _ => body.getD j (.Pass ⟨0, 0, 0, 0⟩)
  | _ => .Pass ⟨0, 0, 0, 0⟩
def defArgs (s : Stmt) : Arguments := match s with
  | .FunctionDef _ a _ _ _ _ _ _ _ _ => a
  | _ => { posonlyargs := [], args := [], vararg := none, kwonlyargs := [], kw_defaults := [], kwarg := none, defaults := [] }
def defBody (s : Stmt) : List Stmt := match s with
  | .FunctionDef _ _ b _ _ _ _ _ _ _ => b
  | _ => []
def defScope (s : Stmt) : Scope := match s with
  | .FunctionDef _ _ _ _ _ _ sc _ _ _ => sc
  | _ => { kind := .function, names := [], isGenerator := false, isCoroutine := false }

/-! ### no exception leaves a def -/
abbrev CX0 : CXT := fun _ _ _ _ _ _ => False
abbrev E0 : XK := fun _ _ _ => False
theorem pass0 {X : Cx} : Passes CX0 X E0 := fun _ _ _ _ _ _ _ h => h.elim

/-! ### a def (or method) of the text as it stands behind the top -/
structure Fun (K : PySem.W.Frag) (x qual : Str) (st : Stmt) (f : Addr) (fd : FuncData) : Prop where
  ex : ∃ (oc : Value) (od : Option Addr) (kV doc pm : Value) (an : Option Addr) (cdv ct : Value) (osl : Array (Option Value)),
    fd = PySem.W.fnOf x qual (defArgs st) (defBody st) (defScope st) .none kV doc pm an cdv ct ∧ K.lookup f = some ⟨oc, od, .func fd, osl⟩ ∧ PySem.W.codeIn K cdv qual = true
  kp : PySem.W.keepIn K (.ref f) = true
section
variable {P : Program} {w : World} {K : PySem.W.Frag} {mg : Str → Option Value} {base : Heap}
/-- THE RULE for a def: its body as a term of rules, and the reading of that term -/
theorem Fun.ok {x qual : Str} {st : Stmt} {f : Addr} {fd : FuncData} {N ps : List Str} {k : Nat} {sp : Sp} (F : Fun K x qual st f fd) (S : FnScope N ps (defScope st)) (len : ∀ vs H Q E, sp vs H Q E → vs.length = ps.length)
    (hbody : ∀ (cdv : Value) (A : Around) (outer : List Env) (s : Shared) (H : Hp) (vs : List V) (Q : VK) (E : XK), Room k (A.deeper (envOfC qual (defScope st) s.heap.objs.size f cdv)) → sp vs H Q E →
      ∃ t, PSs (cxOf CX0 P w K mg base N qual (defScope st) f cdv A outer s H E).nox (defBody st) t ∧ t { nx := fun _ H' => Q .non H', rt := Q } (start N vs) H) : FnOk P w K mg base CX0 (k + 1) f fd ps sp := by
  obtain ⟨oc, od, kV, doc, pm, an, cdv, ct, osl, rfl, lk, hcd⟩ := F.ex
  refine fn_of lk hcd S len fun A outer s H vs Q E hr hsp => ?_
  obtain ⟨t, h, q⟩ := hbody cdv A outer s H vs Q E hr hsp
  exact ⟨t, h.nox, q⟩
/-- how its arguments bind (no defaults): h is «fun _ _ _ _ _ _ us hl => match us, hl with | [_, _], _ => rfl», one _ a parameter -/
theorem Fun.binds {x qual : Str} {st : Stmt} {f : Addr} {fd : FuncData} {ps : List Str} (F : Fun K x qual st f fd)
    (h : ∀ (kV doc pm : Value) (an : Option Addr) (cdv ct : Value) (us : List Value), us.length = ps.length → bindArgs (PySem.W.fnOf x qual (defArgs st) (defBody st) (defScope st) .none kV doc pm an cdv ct) ⟨us, []⟩ = pure (ps.zip us)) : Binds K fd ps [] := by
  obtain ⟨oc, od, kV, doc, pm, an, cdv, ct, osl, rfl, lk, hcd⟩ := F.ex
  exact .all (h kV doc pm an cdv ct)
theorem fun_mk {x qual : Str} {st : Stmt} {f : Addr} {oc : Value} {od an : Option Addr} {osl : Array (Option Value)} {kV doc pm cdv ct : Value} (l : K.lookup f = some ⟨oc, od, .func (PySem.W.fnOf x qual (defArgs st) (defBody st) (defScope st) .none kV doc pm an cdv ct), osl⟩)
    (c : PySem.W.codeIn K cdv qual = true) (k : PySem.W.keepIn K (.ref f) = true) : Fun K x qual st f (PySem.W.fnOf x qual (defArgs st) (defBody st) (defScope st) .none kV doc pm an cdv ct) := ⟨⟨oc, od, kV, doc, pm, an, cdv, ct, osl, rfl, l, c⟩, k⟩
end
theorem hu_of {A : Around} {k : Nat} (hr : Room k A) : A.units + 1 < cLine := Nat.lt_of_le_of_lt (Nat.add_le_add_left (by decide : 1 ≤ 64) _) hr.units
theorem small1000 {n : Nat} (h : n ≤ 1000) : n < sizeLine := Nat.lt_of_le_of_lt h (by decide)

/-! ### expressions in short: the name that stands in the i-th slot -/
section
variable {X : Cx}
theorem pv (i : Nat) {x : Str} {pos : Pos} (hN : X.N[i]? = some x := by rfl) (hv : Vis X.env.scope x := by first | exact Or.inl rfl | exact Or.inr (Or.inl rfl) | exact Or.inr (Or.inr rfl)) (hd : (x == ("__debug__" : Str)) = false := by decide)
    (hcd : (x == ("__classdict__" : Str)) = false := by decide) : PE X (.Name x pos) (tVar i) := pe_var hN hv hd hcd
end

/-! ### tests -/
theorem iteF {A B : Prop} (h : B) : if false = true then A else B := by
  rw [if_neg Bool.false_ne_true]
  exact h
theorem iteT {A B : Prop} (h : A) : if true = true then A else B := by
  rw [if_pos rfl]
  exact h
theorem ite2 {c A B : Prop} [Decidable c] (h1 : c → A) (h2 : ¬ c → B) : if c then A else B := by
  by_cases h : c
  · rw [if_pos h]
    exact h1 h
  · rw [if_neg h]
    exact h2 h
theorem iteNS {c A B : Prop} [Decidable c] (hc : c) (h : B) : if (!decide c) = true then A else B := by
  rw [decide_eq_true hc]
  exact iteF h

/-! ### heaps -/
/-- all that was tracked is as it was -/
def Same (H H' : Hp) : Prop := ∀ b o, H b = some o → H' b = some o
theorem Same.refl (H : Hp) : Same H H := fun _ _ h => h
theorem Same.trans {H H1 H2 : Hp} (a : Same H H1) (b : Same H1 H2) : Same H H2 := fun c o h => b c o (a c o h)
theorem Same.free {H H' : Hp} (e : Same H H') {l : Addr} (h : H' l = Option.none) : H l = Option.none := by
  cases q : H l with
  | none => rfl
  | some o =>
    rw [e l o q] at h
    cases h
theorem Same.seq {K : PySem.W.Frag} {H H' : Hp} {a : Addr} {xs : List V} (e : Same H H') (h : SqL K H a xs) : SqL K H' a xs := by
  rcases h with (h | ⟨o, h⟩) | h
  · exact .inl (.inl (e _ _ h))
  · exact .inl (.inr ⟨o, e _ _ h⟩)
  · exact .inr h

end L2

set_option Elab.async false
set_option linter.all false
/-! The mirror: what a text without side effects means, over plain data. -/
namespace DL
open PySem
/-- plain data -/
inductive D where
  | non | bl (b : Bool) | int (i : Int) | str (x : Str) | tup (ds : List D) | lst (ds : List D) | dic (ks vs : List D)
/-- the frame's names by their places -/
abbrev Ev := List (Option D)
/-- how a statement ends -/
inductive Rs where
  | nx (δ : Ev) | rt (d : D) | bk (δ : Ev) | ct (δ : Ev) | ex
abbrev ME := Ev → Option D
abbrev MT := Ev → Option Bool
abbrev MA := Ev → Option (List D)
abbrev MS := Ev → Option Rs
abbrev MG := D → Ev → Option Ev
abbrev MGs := List D → Ev → Option Ev
abbrev MI := Ev → Option (List D)
abbrev MF := List D → Option D

/-! expressions -/
def slot {α : Type} (δ : List (Option α)) (i : Nat) : Option α := (δ[i]?).getD none
def eVar (i : Nat) : ME := fun δ => slot δ i
def eC (d : D) : ME := fun _ => some d
def eOp (f : D → D → Option D) (a b : ME) : ME := fun δ => (a δ).bind fun x => (b δ).bind fun y => f x y
def eUn (f : D → Option D) (a : ME) : ME := fun δ => (a δ).bind f
def aNil : MA := fun _ => some []
def aCons (a : ME) (r : MA) : MA := fun δ => (a δ).bind fun x => (r δ).bind fun xs => some (x :: xs)
def eCall (f : MF) (a : MA) : ME := fun δ => (a δ).bind f
def eTup (a : MA) : ME := fun δ => (a δ).bind fun xs => some (.tup xs)
def eLst (a : MA) : ME := fun δ => (a δ).bind fun xs => some (.lst xs)
def eAnd (a b : ME) : ME := fun δ => (a δ).bind fun x => match x with | .bl true => b δ | .bl false => some (.bl false) | _ => none
def eOr (a b : ME) : ME := fun δ => (a δ).bind fun x => match x with | .bl true => some (.bl true) | .bl false => b δ | _ => none
def eNot (a : ME) : ME := fun δ => (a δ).bind fun x => match x with | .bl b => some (.bl (!b)) | _ => none
def truth : D → Option Bool
  | .non => some false
  | .bl b => some b
  | .int i => some (i != 0)
  | .str _ => none
  | .tup ds => some (!ds.isEmpty)
  | .lst ds => some (!ds.isEmpty)
  | .dic _ _ => none
def tV (a : ME) : MT := fun δ => (a δ).bind truth
def tAnd (a b : MT) : MT := fun δ => (a δ).bind fun k => if k = true then b δ else some false
def tOr (a b : MT) : MT := fun δ => (a δ).bind fun k => if k = true then some true else b δ
def tNot (a : MT) : MT := fun δ => (a δ).bind fun k => some (!k)
def eIf (c : MT) (a b : ME) : ME := fun δ => (c δ).bind fun k => if k = true then a δ else b δ
/-- a op b op' c .. : the first two by f, the rest by the chain that goes on from the second -/
def eChain2 (f g : D → D → Option D) (a b c : ME) : ME := fun δ => (a δ).bind fun x => (b δ).bind fun y => (f x y).bind fun z => match z with
  | .bl true => (c δ).bind fun u => g y u
  | .bl false => some (.bl false)
  | _ => none
def eChain3 (f g h : D → D → Option D) (a b c d : ME) : ME := fun δ => (a δ).bind fun x => (b δ).bind fun y => (f x y).bind fun z => match z with
  | .bl true => (c δ).bind fun u => (g y u).bind fun z' => match z' with
    | .bl true => (d δ).bind fun v => h u v
    | .bl false => some (.bl false)
    | _ => none
  | .bl false => some (.bl false)
  | _ => none

/-! operations on data -/
def oI (g : Int → Int → Option D) : D → D → Option D
  | .int i, .int j => g i j
  | _, _ => none
def small (i : Int) : Bool := decide (-(2 ^ 64) < i) && decide (i < 2 ^ 64)
def oAdd : D → D → Option D
  | .int i, .int j => some (.int (i + j))
  | .lst xs, .lst ys => if xs.length + ys.length ≤ 16777216 then some (.lst (xs ++ ys)) else none
  | .tup xs, .tup ys => if xs.length + ys.length ≤ 16777216 then some (.tup (xs ++ ys)) else none
  | .str x, .str y => if x.length + y.length ≤ 16777216 then some (.str (x ++ y)) else none
  | _, _ => none
def oSub : D → D → Option D := oI fun i j => some (.int (i - j))
def oMul : D → D → Option D
  | .int i, .int j => if (small j || small i) = true then some (.int (i * j)) else none
  | .tup xs, .int k => if (decide (0 < k) && decide (k ≤ 1000) && decide (0 < xs.length) && decide (xs.length ≤ 1000)) = true then some (.tup (List.replicate k.toNat xs).flatten) else none
  | _, _ => none
def oMod : D → D → Option D := oI fun i j => if 0 < j then some (.int (i % j)) else none
def oFdiv : D → D → Option D := oI fun i j => if 0 < j ∧ j < 1073741824 then some (.int (i / j)) else none
def oLt : D → D → Option D := oI fun i j => some (.bl (decide (i < j)))
def oLe : D → D → Option D := oI fun i j => some (.bl (decide (i ≤ j)))
def oGt : D → D → Option D := oI fun i j => some (.bl (decide (j < i)))
def oGe : D → D → Option D := oI fun i j => some (.bl (decide (j ≤ i)))
def uNeg : D → Option D
  | .int i => some (.int (-i))
  | _ => none
mutual
/-- == as data does -/
def eqD : D → D → Bool
  | .non, .non => true
  | .bl a, .bl b => a == b
  | .int a, .int b => a == b
  | .bl a, .int b => (if a then 1 else 0) == b
  | .int a, .bl b => a == (if b then 1 else 0)
  | .str a, .str b => a == b
  | .tup as, .tup bs => eqDs as bs
  | .lst as, .lst bs => eqDs as bs
  | .dic ks vs, .dic ls ws => eqDs ks ls && eqDs vs ws
  | _, _ => false
def eqDs : List D → List D → Bool
  | [], [] => true
  | a :: as, b :: bs => eqD a b && eqDs as bs
  | _, _ => false
end
mutual
def depD : D → Nat
  | .tup ds => depDs ds + 1
  | .lst ds => depDs ds + 1
  | .dic _ _ => 31
  | _ => 0
def depDs : List D → Nat
  | [] => 0
  | d :: ds => max (depD d) (depDs ds)
end
def oEq (a b : D) : Option D := if depD a ≤ 30 ∧ depD b ≤ 30 then some (.bl (eqD a b)) else none
def oNe (a b : D) : Option D := if depD a ≤ 30 ∧ depD b ≤ 30 then some (.bl (!eqD a b)) else none
/-- is, of a bool constant -/
def uIs (c : Bool) : D → Option D
  | .bl b => some (.bl (b == c))
  | _ => some (.bl false)
def uIsNot (c : Bool) (d : D) : Option D := (uIs c d).bind fun x => match x with | .bl b => some (.bl (!b)) | _ => none
def oIn : D → D → Option D
  | x, .tup ys => if depDs ys ≤ 30 ∧ depD x ≤ 30 then some (.bl (ys.any fun y => eqD y x)) else none
  | x, .lst ys => if depDs ys ≤ 30 ∧ depD x ≤ 30 then some (.bl (ys.any fun y => eqD y x)) else none
  | .str x, .str y => some (.bl (!(Builtin.Str.occurrences y x 0 y.length 1).isEmpty))
  | _, _ => none
/-- an item's place -/
def ixD (n : Nat) (i : Int) : Option Nat := if 0 ≤ i then (if i < n then some i.toNat else none) else if -(n : Int) ≤ i then some (i + n).toNat else none
def oIx : D → D → Option D
  | .tup xs, .int i => (ixD xs.length i).bind fun j => xs[j]?
  | .lst xs, .int i => (ixD xs.length i).bind fun j => xs[j]?
  | .str x, .int i => if x.length ≤ 16777216 then (ixD x.cps.toList.length i).bind fun j => x.cps.toList[j]?.bind fun c => some (.str ⟨#[c]⟩) else none
  | _, _ => none
/-- t[:k] -/
def uCut (k : Nat) : D → Option D
  | .tup xs => some (.tup (xs.take k))
  | .lst xs => some (.lst (xs.take k))
  | _ => none
/-! built-ins -/
inductive Ty where | int | bool | str | list | tuple
def isI : Ty → D → Bool
  | .int, .int _ => true
  | .int, .bl _ => true
  | .bool, .bl _ => true
  | .str, .str _ => true
  | .list, .lst _ => true
  | .tuple, .tup _ => true
  | _, _ => false
def fIs (t : Ty) : MF := fun ds => match ds with | [d] => some (.bl (isI t d)) | _ => none
def fLen : MF := fun ds => match ds with
  | [.tup xs] => some (.int xs.length)
  | [.lst xs] => some (.int xs.length)
  | [.str x] => if x.length ≤ 16777216 then some (.int x.length) else none
  | _ => none
/-- str(n) -/
def fStr : MF := fun ds => match ds with | [.int i] => if i.natAbs.log2 < 1920 then some (.str (toString i)) else none | _ => none
def fAbs : MF := fun ds => match ds with | [.int i] => some (.int (if i < 0 then -i else i)) | _ => none
def fList : MF := fun ds => match ds with | [.tup xs] => some (.lst xs) | [.lst xs] => some (.lst xs) | _ => none
def fTuple : MF := fun ds => match ds with | [.tup xs] => some (.tup xs) | [.lst xs] => some (.tup xs) | _ => none
def allB : List D → Option Bool
  | [] => some true
  | .bl b :: r => (allB r).bind fun k => some (b && k)
  | _ => none
def fAll : MF := fun ds => match ds with | [.lst xs] => (allB xs).bind fun k => some (.bl k) | _ => none

/-! targets, what is walked -/
def gN (i : Nat) : MG := fun d δ => some (δ.set i (some d))
def gsNil : MGs := fun ds δ => match ds with | [] => some δ | _ :: _ => none
def gsCons (g : MG) (gs : MGs) : MGs := fun ds δ => match ds with | d :: r => (g d δ).bind fun δ' => gs r δ' | [] => none
def gT (gs : MGs) : MG := fun d δ => match d with | .tup ds => gs ds δ | _ => none
def iSeq (a : ME) : MI := fun δ => (a δ).bind fun d => match d with | .tup ds => some ds | .lst ds => some ds | _ => none
def rangeD (n : Nat) : List D := (List.range n).map fun (i : Nat) => D.int i
def iRange (a : ME) : MI := fun δ => (a δ).bind fun d => match d with | .int j => if -1073741824 < j ∧ j < 1073741824 then some (rangeD j.toNat) else none | _ => none
def enumD : Nat → List D → List D
  | _, [] => []
  | k, d :: r => .tup [.int k, d] :: enumD (k + 1) r
def iEnum (a : ME) : MI := fun δ => (a δ).bind fun d => match d with | .tup ds => some (enumD 0 ds) | .lst ds => some (enumD 0 ds) | _ => none

/-! comprehensions: one turn gives nothing or an item -/
/-- the block's names: its own k, then those it takes from the def -/
def pick {α : Type} (k : Nat) (fv : List Nat) (δ : List (Option α)) : List (Option α) := List.replicate k none ++ fv.map (slot δ)
def compM (turn : D → Option (Option D)) : List D → Option (List D)
  | [] => some []
  | x :: xs => (turn x).bind fun o => (compM turn xs).bind fun r => some (match o with | some d => d :: r | none => r)
def eCompB (B : Ev → Ev) (i : MI) (g : MG) (c : MT) (e : ME) : ME := fun δ => (i δ).bind fun xs => if xs.length ≤ 16777216 then
  (compM (fun x => (g x (B δ)).bind fun δ1 => (c δ1).bind fun b => if b = true then (e δ1).bind fun d => some (some d) else some none) xs).bind fun r => some (.lst r)
  else none
def eComp (k : Nat) (fv : List Nat) (i : MI) (g : MG) (c : MT) (e : ME) : ME := fun δ => (i δ).bind fun xs => if xs.length ≤ 16777216 then
  (compM (fun x => (g x (pick k fv δ)).bind fun δ1 => (c δ1).bind fun b => if b = true then (e δ1).bind fun d => some (some d) else some none) xs).bind fun r => some (.lst r)
  else none
/-- with owned names among those that it takes: n the number of the def's names -/
def eCompO (k n : Nat) (fv : List Nat) (i : MI) (g : MG) (c : MT) (e : ME) : ME := eCompB (fun δ => pick k fv δ ++ pick k (fv.map (n + ·)) δ) i g c e
def tT : MT := fun _ => some true

/-! statements -/
def sNil : MS := fun δ => some (.nx δ)
def sSeq (a b : MS) : MS := fun δ => (a δ).bind fun r => match r with | .nx δ' => b δ' | r => some r
def sIf (c : MT) (a b : MS) : MS := fun δ => (c δ).bind fun k => if k = true then a δ else b δ
def sRet (a : ME) : MS := fun δ => (a δ).bind fun d => some (.rt d)
def sAsg (a : ME) (g : MG) : MS := fun δ => (a δ).bind fun d => (g d δ).bind fun δ' => some (.nx δ')
def sPar (i j : Nat) (a b : ME) : MS := fun δ => (a δ).bind fun x => (b δ).bind fun y => some (.nx ((δ.set i (some x)).set j (some y)))
def forM (g : MG) (body : MS) : List D → Ev → Option Rs
  | [], δ => some (.nx δ)
  | x :: xs, δ => (g x δ).bind fun δ1 => (body δ1).bind fun r => match r with
    | .nx δ2 => forM g body xs δ2
    | .ct δ2 => forM g body xs δ2
    | .bk δ2 => some (.nx δ2)
    | .rt d => some (.rt d)
    | .ex => some .ex
def sFor (i : MI) (g : MG) (body : MS) : MS := fun δ => (i δ).bind fun xs => forM g body xs δ
def whN (c : MT) (b : MS) : Nat → Ev → Option Rs
  | 0, _ => none
  | n + 1, δ => (c δ).bind fun k => if k = true then (b δ).bind fun r => match r with
    | .nx δ2 => whN c b n δ2
    | .ct δ2 => whN c b n δ2
    | .bk δ2 => some (.nx δ2)
    | .rt d => some (.rt d)
    | .ex => some .ex
    else some (.nx δ)
open Classical in
noncomputable def sWhile (c : MT) (b : MS) : MS := fun δ => if h : ∃ n r, whN c b n δ = some r then whN c b (Classical.choose h) δ else none
/-- a def: n parameters, k names in all -/
def fnM (n k : Nat) (m : MS) : MF := fun ds => if ds.length = n then (m (ds.map some ++ List.replicate (k - n) none)).bind fun r => match r with
    | .rt d => some d
    | .nx _ => some .non
    | _ => none
  else none

/-! owned lists and dicts: name i of n -/
def ownAt (n i : Nat) (δ : Ev) : Option D := match slot δ i with
  | none => slot δ (n + i)
  | some _ => none
def setOwn (n i : Nat) (d : D) (δ : Ev) : Ev := (δ.set i none).set (n + i) (some d)
def sOwn (n i : Nat) (a : ME) : MS := fun δ => (a δ).bind fun d => some (.nx (setOwn n i d δ))
def frz (n i : Nat) (δ : Ev) : Ev := match ownAt n i δ with
  | some d => (δ.set i (some d)).set (n + i) none
  | none => δ
def frzs (n : Nat) : List Nat → Ev → Ev
  | [], δ => δ
  | i :: r, δ => frzs n r (frz n i δ)
def sFrz (n : Nat) (is : List Nat) (m : MS) : MS := fun δ => m (frzs n is δ)
mutual
/-- no list and no dict in it -/
def flat : D → Bool
  | .tup ds => flats ds
  | .lst _ => false
  | .dic _ _ => false
  | _ => true
def flats : List D → Bool
  | [] => true
  | d :: ds => flat d && flats ds
end
def eBor (n : Nat) (is : List Nat) (a : ME) : ME := fun δ => (a (frzs n is δ)).bind fun d => if flat d = true then some d else none
def tBor (n : Nat) (is : List Nat) (c : MT) : MT := fun δ => c (frzs n is δ)
def sApp (n i : Nat) (a : ME) : MS := fun δ => (a δ).bind fun y => match ownAt n i δ with
  | some (.lst ds) => if ds.length < 16777216 then some (.nx (δ.set (n + i) (some (.lst (ds ++ [y]))))) else none
  | _ => none
/-- x[k] = a, of a list -/
def sPutL (n i : Nat) (k a : ME) : MS := fun δ => (a δ).bind fun y => (k δ).bind fun z => match ownAt n i δ, z with
  | some (.lst ds), .int j => (ixD ds.length j).bind fun q => some (.nx (δ.set (n + i) (some (.lst (ds.set q y)))))
  | _, _ => none

/-! facts -/
theorem whN_more (c : MT) (b : MS) : ∀ (n : Nat) (δ : Ev) (r : Rs), whN c b n δ = some r → whN c b (n + 1) δ = some r := by
  intro n
  induction n with
  | zero => intro δ r h; simp [whN] at h
  | succ n ih =>
    intro δ r h
    rw [whN] at h ⊢
    cases hc : c δ with
    | none => rw [hc] at h; simp at h
    | some k =>
      rw [hc] at h
      simp only [Option.bind_some] at h ⊢
      cases k with
      | false => simpa using h
      | true =>
        simp only [if_true] at h ⊢
        cases hb : b δ with
        | none => rw [hb] at h; simp at h
        | some q =>
          rw [hb] at h
          simp only [Option.bind_some] at h ⊢
          cases q with
          | nx δ2 => exact ih _ _ h
          | ct δ2 => exact ih _ _ h
          | bk δ2 => exact h
          | rt d => exact h
          | ex => exact h
theorem whN_le {c : MT} {b : MS} {n m : Nat} {δ : Ev} {r : Rs} (h : whN c b n δ = some r) (hm : n ≤ m) : whN c b m δ = some r := by
  induction hm with
  | refl => exact h
  | step _ ih => exact whN_more _ _ _ _ _ ih
theorem sWhile_of {c : MT} {b : MS} {n : Nat} {δ : Ev} {r : Rs} (h : whN c b n δ = some r) : sWhile c b δ = some r := by
  have hx : ∃ n r, whN c b n δ = some r := ⟨n, r, h⟩
  unfold sWhile
  rw [dif_pos hx]
  obtain ⟨r', h'⟩ := Classical.choose_spec hx
  rcases Nat.le_total n (Classical.choose hx) with l | l
  · exact whN_le h l
  · have := whN_le h' l
    rw [h] at this
    rw [h', this]
theorem sWhile_inv {c : MT} {b : MS} {δ : Ev} {r : Rs} (h : sWhile c b δ = some r) : ∃ n, whN c b n δ = some r := by
  unfold sWhile at h
  split at h
  · exact ⟨_, h⟩
  · cases h
theorem compM_of {turn : D → Option (Option D)} (f : D → Option D) : ∀ (xs : List D), (∀ x ∈ xs, turn x = some (f x)) → compM turn xs = some (xs.filterMap f)
  | [], _ => rfl
  | x :: xs, h => by
    rw [compM, h x List.mem_cons_self, compM_of f xs fun y hy => h y (List.mem_cons_of_mem _ hy)]
    simp only [Option.bind_some, List.filterMap_cons]
    cases f x <;> rfl

theorem slot_some {α : Type} {δ : List (Option α)} {i : Nat} {d : α} (h : slot δ i = some d) : δ[i]? = some (some d) := by
  unfold slot at h
  cases e : δ[i]? with
  | none => rw [e] at h; cases h
  | some o => rw [e] at h; exact congrArg some h
mutual
theorem eqD_refl : ∀ d : D, eqD d d = true
  | .non => rfl
  | .bl _ => by simp [eqD]
  | .int _ => by simp [eqD]
  | .str _ => by simp [eqD]
  | .tup ds => by simp only [eqD]; exact eqDs_refl ds
  | .lst ds => by simp only [eqD]; exact eqDs_refl ds
  | .dic ks vs => by simp only [eqD, eqDs_refl ks, eqDs_refl vs]; rfl
theorem eqDs_refl : ∀ ds : List D, eqDs ds ds = true
  | [] => by simp [eqDs]
  | d :: ds => by simp [eqDs, eqD_refl d, eqDs_refl ds]
end
theorem eqDs_range : ∀ (ds es : List D), ((List.range (min ds.length es.length)).all (fun j => eqD (ds.getD j .non) (es.getD j .non)) && ds.length == es.length) = eqDs ds es
  | [], [] => by simp [eqDs]
  | [], _ :: _ => by simp [eqDs]
  | _ :: _, [] => by simp [eqDs]
  | d :: ds, e :: es => by
    have ih := eqDs_range ds es
    have hm : min (ds.length + 1) (es.length + 1) = min ds.length es.length + 1 := by omega
    have hb : (ds.length + 1 == es.length + 1) = (ds.length == es.length) := by simp
    simp only [List.length_cons, hm, hb, List.range_succ_eq_map, List.all_cons, List.all_map, List.getD_cons_zero, eqDs, ← ih, Bool.and_assoc]
    rfl
theorem depDs_le {n : Nat} : ∀ {ds : List D}, depDs ds ≤ n ↔ ∀ d ∈ ds, depD d ≤ n
  | [] => by simp [depDs]
  | d :: ds => by
    have := depDs_le (n := n) (ds := ds)
    simp only [depDs, List.mem_cons, forall_eq_or_imp, ← this]
    omega
/-! running a mirror step by step -/
theorem fn_ev {n k : Nat} {m : MS} {ds : List D} {r : D} (hl : ds.length = n) (h : m (ds.map some ++ List.replicate (k - n) none) = some (.rt r)) : fnM n k m ds = some r := by
  unfold fnM
  rw [if_pos hl, h]
  rfl
theorem seq_nx {a b : MS} {δ δ' : Ev} (h : a δ = some (.nx δ')) : sSeq a b δ = b δ' := by unfold sSeq; rw [h]; rfl
theorem seq_rt {a b : MS} {δ : Ev} {d : D} (h : a δ = some (.rt d)) : sSeq a b δ = some (.rt d) := by unfold sSeq; rw [h]; rfl
theorem if_T {c : MT} {a b : MS} {δ : Ev} (h : c δ = some true) : sIf c a b δ = a δ := by unfold sIf; rw [h]; rfl
theorem if_F {c : MT} {a b : MS} {δ : Ev} (h : c δ = some false) : sIf c a b δ = b δ := by unfold sIf; rw [h]; rfl
theorem ret_ev {a : ME} {δ : Ev} {d : D} (h : a δ = some d) : sRet a δ = some (.rt d) := by unfold sRet; rw [h]; rfl
theorem asg_ev {a : ME} {g : MG} {δ δ' : Ev} {d : D} (h : a δ = some d) (hg : g d δ = some δ') : sAsg a g δ = some (.nx δ') := by unfold sAsg; rw [h]; simp [hg]
theorem tV_ev {a : ME} {δ : Ev} {d : D} {b : Bool} (h : a δ = some d) (hb : truth d = some b) : tV a δ = some b := by unfold tV; rw [h]; exact hb
theorem tNot_ev {a : MT} {δ : Ev} {b : Bool} (h : a δ = some b) : tNot a δ = some (!b) := by unfold tNot; rw [h]; rfl
theorem tOr_ev {a c : MT} {δ : Ev} {x y : Bool} (h : a δ = some x) (hc : c δ = some y) : tOr a c δ = some (x || y) := by
  unfold tOr; rw [h]; cases x <;> simp [hc]
theorem tOr_T {a c : MT} {δ : Ev} (h : a δ = some true) : tOr a c δ = some true := by unfold tOr; rw [h]; rfl
theorem op_ev {f : D → D → Option D} {a b : ME} {δ : Ev} {x y : D} (h : a δ = some x) (hb : b δ = some y) : eOp f a b δ = f x y := by unfold eOp; rw [h, hb]; rfl
theorem un_ev {f : D → Option D} {a : ME} {δ : Ev} {x : D} (h : a δ = some x) : eUn f a δ = f x := by unfold eUn; rw [h]; rfl
theorem call1 (f : MF) (a : ME) (δ : Ev) : eCall f (aCons a aNil) δ = (a δ).bind fun x => f [x] := by
  simp only [eCall, aCons, aNil]; cases a δ <;> rfl
theorem call2 (f : MF) (a b : ME) (δ : Ev) : eCall f (aCons a (aCons b aNil)) δ = (a δ).bind fun x => (b δ).bind fun y => f [x, y] := by
  simp only [eCall, aCons, aNil]; cases a δ <;> cases b δ <;> rfl
theorem call3 (f : MF) (a b c : ME) (δ : Ev) : eCall f (aCons a (aCons b (aCons c aNil))) δ = (a δ).bind fun x => (b δ).bind fun y => (c δ).bind fun z => f [x, y, z] := by
  simp only [eCall, aCons, aNil]; cases a δ <;> cases b δ <;> cases c δ <;> rfl
theorem call1_ev {f : MF} {a : ME} {δ : Ev} {x : D} (h : a δ = some x) : eCall f (aCons a aNil) δ = f [x] := by rw [call1, h]; rfl
theorem call2_ev {f : MF} {a b : ME} {δ : Ev} {x y : D} (h : a δ = some x) (hb : b δ = some y) : eCall f (aCons a (aCons b aNil)) δ = f [x, y] := by rw [call2, h, hb]; rfl
theorem call3_ev {f : MF} {a b c : ME} {δ : Ev} {x y z : D} (h : a δ = some x) (hb : b δ = some y) (hc : c δ = some z) : eCall f (aCons a (aCons b (aCons c aNil))) δ = f [x, y, z] := by rw [call3, h, hb, hc]; rfl
theorem comp_map {turn : D → Option (Option D)} (f : D → D) (xs : List D) (h : ∀ x ∈ xs, turn x = some (some (f x))) : compM turn xs = some (xs.map f) := by
  rw [compM_of (fun x => some (f x)) xs h]
  simp
theorem comp_ev {k : Nat} {fv : List Nat} {i : MI} {g : MG} {c : MT} {e : ME} {δ : Ev} {xs : List D} (f : D → Option D) (hi : i δ = some xs) (hl : xs.length ≤ 16777216)
    (h : ∀ x ∈ xs, ∃ δ1, g x (pick k fv δ) = some δ1 ∧ ((c δ1 = some true ∧ ∃ d, e δ1 = some d ∧ f x = some d) ∨ (c δ1 = some false ∧ f x = none))) :
    eComp k fv i g c e δ = some (.lst (xs.filterMap f)) := by
  unfold eComp
  rw [hi]
  simp only [Option.bind_some]
  rw [if_pos hl, compM_of f xs fun x hx => ?_]
  · rfl
  · obtain ⟨δ1, e1, h | h⟩ := h x hx
    · obtain ⟨h1, d, h2, h3⟩ := h
      rw [e1]
      simp [h1, h2, h3]
    · obtain ⟨h1, h3⟩ := h
      rw [e1]
      simp [h1, h3]
/-- a loop by what holds between two turns -/
theorem for_ev {g : MG} {body : MS} (P : Ev → Prop) : ∀ (xs : List D) (δ : Ev), P δ → (∀ x ∈ xs, ∀ δ, P δ → ∃ δ1 δ2, g x δ = some δ1 ∧ (body δ1 = some (.nx δ2) ∨ body δ1 = some (.ct δ2)) ∧ P δ2) → ∃ δ', forM g body xs δ = some (.nx δ') ∧ P δ'
  | [], δ, h0, _ => ⟨δ, rfl, h0⟩
  | x :: xs, δ, h0, h => by
    obtain ⟨δ1, δ2, e1, e2, h2⟩ := h x List.mem_cons_self δ h0
    obtain ⟨δ', e3, h3⟩ := for_ev P xs δ2 h2 fun y hy => h y (List.mem_cons_of_mem _ hy)
    refine ⟨δ', ?_, h3⟩
    rw [forM, e1]
    rcases e2 with e2 | e2 <;> simp [e2, e3]
theorem sfor_ev {i : MI} {g : MG} {body : MS} {δ : Ev} {xs : List D} (hi : i δ = some xs) : sFor i g body δ = forM g body xs δ := by unfold sFor; rw [hi]; rfl
end DL

set_option Elab.async false
set_option linter.all false
set_option maxRecDepth 100000
namespace DL
open PySem PySem.Spec PyProof.Rows L2

/-! ### what a value means -/
def kD : Key → D
  | .inl i => .int i
  | .inr x => .str x
def kT (ks : List Key) : D := .tup (ks.map kD)
/-- the dict at a: its keys (whole numbers and texts, or tuples of such), its values -/
def DcAt (H : Hp) (a : Addr) (ks : List D) (xs : List V) : Prop :=
  (∃ kvs : List (Key × V), H a = some (.dK kvs) ∧ ks = kvs.map (fun p => kD p.1) ∧ xs = kvs.map (·.2)) ∨
  (∃ kvs : List (List Key × V), H a = some (.dT kvs) ∧ ks = kvs.map (fun p => kT p.1) ∧ xs = kvs.map (·.2))
mutual
def Den (K : PySem.W.Frag) (H : Hp) : D → V → Prop
  | .non, v => v = .non
  | .bl b, v => v = .bl b
  | .int i, v => v = .int i
  | .str x, v => v = .str x
  | .tup ds, v => ∃ a xs, v = .ref a ∧ H a = some (.tup xs) ∧ Dens K H ds xs
  | .lst ds, v => ∃ a xs, v = .ref a ∧ SqL K H a xs ∧ Dens K H ds xs
  | .dic ks vs, v => ∃ a xs, v = .ref a ∧ DcAt H a ks xs ∧ Dens K H vs xs
def Dens (K : PySem.W.Frag) (H : Hp) : List D → List V → Prop
  | [], xs => xs = []
  | d :: ds, xs => ∃ x r, xs = x :: r ∧ Den K H d x ∧ Dens K H ds r
end
section
variable {K : PySem.W.Frag} {H H' : Hp}
theorem seqT {a : Addr} {xs : List V} (e : Same H H') (h : SqT K H a xs) : SqT K H' a xs := by
  rcases h with (h | ⟨o, h⟩) | h
  · exact .inl (.inl (e _ _ h))
  · exact .inl (.inr ⟨o, e _ _ h⟩)
  · exact .inr h
theorem DcAt.mono {a : Addr} {ks : List D} {xs : List V} (e : Same H H') (h : DcAt H a ks xs) : DcAt H' a ks xs := by
  rcases h with ⟨kvs, h, r⟩ | ⟨kvs, h, r⟩
  · exact .inl ⟨kvs, e _ _ h, r⟩
  · exact .inr ⟨kvs, e _ _ h, r⟩
mutual
theorem Den.mono (e : Same H H') : ∀ (d : D) (v : V), Den K H d v → Den K H' d v
  | .non, _, h => by simp only [Den] at h ⊢; exact h
  | .bl _, _, h => by simp only [Den] at h ⊢; exact h
  | .int _, _, h => by simp only [Den] at h ⊢; exact h
  | .str _, _, h => by simp only [Den] at h ⊢; exact h
  | .tup ds, _, h => by
    simp only [Den] at h ⊢
    obtain ⟨a, xs, e1, h1, h2⟩ := h
    exact ⟨a, xs, e1, e _ _ h1, Dens.mono e ds xs h2⟩
  | .lst ds, _, h => by
    simp only [Den] at h ⊢
    obtain ⟨a, xs, e1, h1, h2⟩ := h
    exact ⟨a, xs, e1, e.seq h1, Dens.mono e ds xs h2⟩
  | .dic ks ds, _, h => by
    simp only [Den] at h ⊢
    obtain ⟨a, xs, e1, h1, h2⟩ := h
    exact ⟨a, xs, e1, h1.mono e, Dens.mono e ds xs h2⟩
theorem Dens.mono (e : Same H H') : ∀ (ds : List D) (xs : List V), Dens K H ds xs → Dens K H' ds xs
  | [], _, h => by simp only [Dens] at h ⊢; exact h
  | d :: ds, _, h => by
    simp only [Dens] at h ⊢
    obtain ⟨x, r, e1, h1, h2⟩ := h
    exact ⟨x, r, e1, Den.mono e d x h1, Dens.mono e ds r h2⟩
end
theorem Dens.nil : Dens K H [] [] := by simp only [Dens]
theorem Dens.cons {d : D} {ds : List D} {x : V} {xs : List V} (h : Den K H d x) (hs : Dens K H ds xs) : Dens K H (d :: ds) (x :: xs) := by
  simp only [Dens]
  exact ⟨x, xs, rfl, h, hs⟩
theorem Dens.uncons {d : D} {ds : List D} {xs : List V} (h : Dens K H (d :: ds) xs) : ∃ x r, xs = x :: r ∧ Den K H d x ∧ Dens K H ds r := by
  simpa only [Dens] using h
theorem Dens.unnil {xs : List V} (h : Dens K H [] xs) : xs = [] := by simpa only [Dens] using h
theorem Dens.length : ∀ {ds : List D} {xs : List V}, Dens K H ds xs → ds.length = xs.length
  | [], _, h => by rw [h.unnil]; rfl
  | d :: ds, _, h => by
    obtain ⟨x, r, rfl, _, h2⟩ := h.uncons
    simp [h2.length]
theorem Dens.get : ∀ {ds : List D} {xs : List V} {i : Nat} {d : D}, Dens K H ds xs → ds[i]? = some d → ∃ x, xs[i]? = some x ∧ Den K H d x
  | [], _, _, _, _, e => by simp at e
  | d :: ds, _, i, d', h, e => by
    obtain ⟨x, r, rfl, h1, h2⟩ := h.uncons
    cases i with
    | zero => simp at e; subst e; exact ⟨x, rfl, h1⟩
    | succ i => simpa using h2.get (i := i) (d := d') (by simpa using e)
theorem Dens.append : ∀ {ds es : List D} {xs ys : List V}, Dens K H ds xs → Dens K H es ys → Dens K H (ds ++ es) (xs ++ ys)
  | [], _, _, _, h, g => by rw [h.unnil]; exact g
  | d :: ds, _, _, _, h, g => by
    obtain ⟨x, r, rfl, h1, h2⟩ := h.uncons
    exact .cons h1 (h2.append g)
theorem Dens.take : ∀ {ds : List D} {xs : List V} (n : Nat), Dens K H ds xs → Dens K H (ds.take n) (xs.take n)
  | _, _, 0, _ => by rw [List.take_zero, List.take_zero]; exact .nil
  | [], _, n + 1, h => by rw [h.unnil]; exact .nil
  | d :: ds, _, n + 1, h => by
    obtain ⟨x, r, rfl, h1, h2⟩ := h.uncons
    exact .cons h1 (h2.take n)
theorem Dens.flat : ∀ {ds : List D} {xs : List V} (k : Nat), Dens K H ds xs → Dens K H (List.replicate k ds).flatten (List.replicate k xs).flatten
  | _, _, 0, _ => .nil
  | ds, xs, k + 1, h => by
    rw [List.replicate_succ, List.replicate_succ, List.flatten_cons, List.flatten_cons]
    exact h.append (h.flat k)
theorem Den.int (i : Int) : Den K H (.int i) (.int i) := by simp only [Den]
theorem Den.bl (b : Bool) : Den K H (.bl b) (.bl b) := by simp only [Den]
theorem Den.non : Den K H .non .non := by simp only [Den]
theorem Den.str (x : Str) : Den K H (.str x) (.str x) := by simp only [Den]
theorem Den.tup {a : Addr} {ds : List D} {xs : List V} (h : H a = some (.tup xs)) (hs : Dens K H ds xs) : Den K H (.tup ds) (.ref a) := by
  simp only [Den]
  exact ⟨a, xs, rfl, h, hs⟩
theorem Den.lst {a : Addr} {ds : List D} {xs : List V} (h : SqL K H a xs) (hs : Dens K H ds xs) : Den K H (.lst ds) (.ref a) := by
  simp only [Den]
  exact ⟨a, xs, rfl, h, hs⟩
theorem Den.int_inv {i : Int} {v : V} (h : Den K H (.int i) v) : v = .int i := by simpa only [Den] using h
theorem Den.bl_inv {i : Bool} {v : V} (h : Den K H (.bl i) v) : v = .bl i := by simpa only [Den] using h
theorem Den.str_inv {i : Str} {v : V} (h : Den K H (.str i) v) : v = .str i := by simpa only [Den] using h
theorem Den.non_inv {v : V} (h : Den K H .non v) : v = .non := by simpa only [Den] using h
theorem Den.tup_inv {ds : List D} {v : V} (h : Den K H (.tup ds) v) : ∃ a xs, v = .ref a ∧ H a = some (.tup xs) ∧ Dens K H ds xs := by simpa only [Den] using h
theorem Den.tup_sq {ds : List D} {v : V} (h : Den K H (.tup ds) v) : ∃ a xs, v = .ref a ∧ SqT K H a xs ∧ Dens K H ds xs := let ⟨a, xs, e, h1, h2⟩ := h.tup_inv; ⟨a, xs, e, .of h1, h2⟩
theorem Den.lst_inv {ds : List D} {v : V} (h : Den K H (.lst ds) v) : ∃ a xs, v = .ref a ∧ SqL K H a xs ∧ Dens K H ds xs := by simpa only [Den] using h
theorem Den.dic {a : Addr} {ks ds : List D} {xs : List V} (h : DcAt H a ks xs) (hs : Dens K H ds xs) : Den K H (.dic ks ds) (.ref a) := by
  simp only [Den]
  exact ⟨a, xs, rfl, h, hs⟩
theorem Den.dic_inv {ks ds : List D} {v : V} (h : Den K H (.dic ks ds) v) : ∃ a xs, v = .ref a ∧ DcAt H a ks xs ∧ Dens K H ds xs := by simpa only [Den] using h
theorem same_new {p : Addr} (h : H p = none) (o : HO) : Same H (upd H p o) := fun b u q => by rw [upd_ne (ne_of_none q h)]; exact q
theorem Dens.ints : ∀ (ns : List Int), Dens K H (ns.map D.int) (ns.map V.int)
  | [] => .nil
  | n :: ns => .cons (.int n) (Dens.ints ns)

/-! ### what is hidden: the objects that a frame owns and may change -/
def hide (os : List Addr) (H : Hp) : Hp := fun b => if b ∈ os then none else H b
def NoTup : HO → Prop
  | .tup _ => False
  | _ => True
def Live (os : List Addr) (H : Hp) : Prop := ∀ a ∈ os, ∃ o, H a = some o ∧ NoTup o
section
variable {os : List Addr} {p : Addr}
theorem hide_le : Same (hide os H) H := fun b o e => by unfold hide at e; split at e; cases e; exact e
theorem hide_nil : hide [] H = H := by funext b; simp [hide]
theorem hide_off {b : Addr} (h : b ∉ os) : hide os H b = H b := by simp [hide, h]
theorem hide_on {b : Addr} (h : b ∈ os) : hide os H b = none := by simp [hide, h]
theorem _root_.L2.Same.hd (g : Same H H') : Same (hide os H) (hide os H') := fun b o e => by
  unfold hide at e ⊢
  split at e
  · cases e
  · rename_i h; rw [if_neg h]; exact g b o e
theorem Live.mono (l : Live os H) (g : Same H H') : Live os H' := fun a h => let ⟨o, e, n⟩ := l a h; ⟨o, g _ _ e, n⟩
theorem Live.ne (l : Live os H) (h : H p = none) : p ∉ os := fun z => by obtain ⟨o, e, _⟩ := l p z; rw [h] at e; cases e
theorem hide_tup (l : Live os H) {xs : List V} (h : H p = some (.tup xs)) : hide os H p = some (.tup xs) := by
  rw [hide_off fun z => ?_]
  · exact h
  · obtain ⟨o, e, n⟩ := l p z
    rw [h] at e
    cases e
    exact n
theorem hide_new (l : Live os H) (h : H p = none) (o : HO) : hide os (upd H p o) p = some o := by rw [hide_off (l.ne h), upd_same]
theorem Den.newT {ds : List D} {xs : List V} (l : Live os H) (h : H p = none) (d : Dens K (hide os H) ds xs) : Den K (hide os (upd H p (.tup xs))) (.tup ds) (.ref p) := .tup (hide_new l h _) (d.mono (same_new h _).hd _ _)
theorem Den.newL {ds : List D} {xs : List V} (l : Live os H) (h : H p = none) (d : Dens K (hide os H) ds xs) : Den K (hide os (upd H p (.lst xs))) (.lst ds) (.ref p) := .lst (.of (hide_new l h _)) (d.mono (same_new h _).hd _ _)
theorem Den.tup_up {ds : List D} {v : V} (h : Den K (hide os H) (.tup ds) v) : ∃ a xs, v = .ref a ∧ SqT K H a xs ∧ Dens K (hide os H) ds xs := let ⟨a, xs, e, h1, h2⟩ := h.tup_inv; ⟨a, xs, e, .of (hide_le _ _ h1), h2⟩
theorem Den.lst_up {ds : List D} {v : V} (h : Den K (hide os H) (.lst ds) v) : ∃ a xs, v = .ref a ∧ SqL K H a xs ∧ Dens K (hide os H) ds xs := let ⟨a, xs, e, h1, h2⟩ := h.lst_inv; ⟨a, xs, e, hide_le.seq h1, h2⟩
theorem Den.up {d : D} {v : V} (h : Den K (hide os H) d v) : Den K H d v := h.mono hide_le _ _
theorem Dens.up {ds : List D} {vs : List V} (h : Dens K (hide os H) ds vs) : Dens K H ds vs := h.mono hide_le _ _
end

/-! ### the frame's names: each by its own value (places below the frame's length), or owned (places from there on): a list or dict that no other data reaches -/
def Own (K : PySem.W.Frag) (B H : Hp) (a : Addr) : D → Prop
  | .lst ds => ∃ xs, H a = some (.lst xs) ∧ Dens K B ds xs
  | .dic ks vs => ∃ xs, DcAt H a ks xs ∧ Dens K B vs xs
  | _ => False
theorem Own.mono {os : List Addr} {a : Addr} {d : D} (g : Same H H') (h : Own K (hide os H) H a d) : Own K (hide os H') H' a d := by
  cases d with
  | lst ds => obtain ⟨xs, h1, h2⟩ := h; exact ⟨xs, g _ _ h1, h2.mono g.hd _ _⟩
  | dic ks vs => obtain ⟨xs, h1, h2⟩ := h; exact ⟨xs, h1.mono g, h2.mono g.hd _ _⟩
  | _ => exact h
/-- the state of the names: X gives their number -/
structure Sl (X : Cx) (os : List Addr) (H : Hp) (δ : Ev) (σ : L2.St) : Prop where
  n : σ.length = X.N.length
  len : X.N.length ≤ δ.length
  pl : ∀ (i : Nat) (d : D), i < X.N.length → δ[i]? = some (some d) → ∃ v, σ[i]? = some (some v) ∧ Den X.K (hide os H) d v
  ow : ∀ (i : Nat) (d : D), i < X.N.length → δ[i]? = some none → δ[X.N.length + i]? = some (some d) → ∃ a, σ[i]? = some (some (.ref a)) ∧ a ∈ os ∧ (X.fn "" = true → X.H₀ a = none) ∧ Own X.K (hide os H) H a d
  inj : ∀ (i j : Nat) (d e : D) (a : Addr), i < X.N.length → j < X.N.length → δ[i]? = some none → δ[j]? = some none → δ[X.N.length + i]? = some (some d) → δ[X.N.length + j]? = some (some e) → σ[i]? = some (some (.ref a)) → σ[j]? = some (some (.ref a)) → i = j
  live : Live os H
  keep : Same X.H₀ H
section
variable {os : List Addr} {X : Cx}
theorem Sl.mono {δ : Ev} {σ : L2.St} (e : Same H H') (h : Sl X os H δ σ) : Sl X os H' δ σ :=
  ⟨h.n, h.len, fun i d l q => let ⟨v, a, b⟩ := h.pl i d l q; ⟨v, a, b.mono e.hd _ _⟩, fun i d l q1 q2 => let ⟨a, e1, e2, e4, e3⟩ := h.ow i d l q1 q2; ⟨a, e1, e2, e4, e3.mono e⟩, h.inj, h.live.mono e, h.keep.trans e⟩
theorem Sl.set {δ : Ev} {σ : L2.St} {d : D} {v : V} (i : Nat) (hi : i < X.N.length) (h : Sl X os H δ σ) (r : Den X.K (hide os H) d v) : Sl X os H (δ.set i (some d)) (σ.set i (some v)) := by
  have hid : i < δ.length := Nat.lt_of_lt_of_le hi h.len
  have ne : ∀ j, (δ.set i (some d))[j]? = some none → i ≠ j := fun j q z => by
    subst z
    rw [List.getElem?_set_self hid] at q
    cases q
  refine ⟨by simpa using h.n, by simpa using h.len, fun j d' l q => ?_, fun j d' l q1 q2 => ?_, fun j k d1 d2 a l1 l2 q1 q2 q3 q4 q5 q6 => ?_, h.live, h.keep⟩
  · by_cases hj : i = j
    · subst hj
      rw [List.getElem?_set_self hid] at q
      cases q
      exact ⟨v, by rw [List.getElem?_set_self (by rw [h.n]; exact hi)], r⟩
    · rw [List.getElem?_set_ne hj] at q ⊢
      exact h.pl j d' l q
  · have hj := ne j q1
    rw [List.getElem?_set_ne hj] at q1 ⊢
    rw [List.getElem?_set_ne (by omega)] at q2
    exact h.ow j d' l q1 q2
  · have hj := ne j q1
    have hk := ne k q2
    rw [List.getElem?_set_ne hj] at q1 q5
    rw [List.getElem?_set_ne hk] at q2 q6
    rw [List.getElem?_set_ne (by omega)] at q3
    rw [List.getElem?_set_ne (by omega)] at q4
    exact h.inj j k d1 d2 a l1 l2 q1 q2 q3 q4 q5 q6
end
end

/-! ### the judgements -/
def Fin (K : PySem.W.Frag) (os : List Addr) (H : Hp) (d : D) (Q : VK) : Prop := ∀ v H', Same H H' → Den K (hide os H') d v → Q v H'
theorem Fin.mono {K : PySem.W.Frag} {os : List Addr} {H H' : Hp} {d : D} {Q : VK} (e : Same H H') (h : Fin K os H d Q) : Fin K os H' d Q := fun v H2 g r => h v H2 (e.trans g) r
def DE (X : Cx) (e : Expr) (m : ME) : Prop := ∃ t : TE, PE X e t ∧ ∀ os σ H δ d Q, Sl X os H δ σ → m δ = some d → Fin X.K os H d Q → t σ H Q
/-- a list or dict made anew: no one else has it -/
def DF (X : Cx) (e : Expr) (m : ME) : Prop := ∃ t : TE, PE X e t ∧ ∀ os σ H δ d Q, Sl X os H δ σ → m δ = some d → (∀ p H', Same H H' → H p = none → Own X.K (hide (p :: os) H') H' p d → Q (.ref p) H') → t σ H Q
theorem new_own {os : List Addr} {H : Hp} {p : Addr} (h : H p = none) (o : HO) : Same (hide os H) (hide (p :: os) (upd H p o)) := fun b u e => by
  have hb : b ∉ os := fun z => by rw [hide_on z] at e; cases e
  rw [hide_off hb] at e
  have hp : b ≠ p := ne_of_none e h
  rw [hide_off (by simp [hb, hp]), upd_ne hp]
  exact e
theorem less_hid {os : List Addr} {H : Hp} {p : Addr} : Same (hide (p :: os) H) (hide os H) := fun b u e => by
  have hb : b ∉ p :: os := fun z => by rw [hide_on z] at e; cases e
  rw [hide_off hb] at e
  rw [hide_off (fun z => hb (List.mem_cons_of_mem _ z))]
  exact e
theorem Own.den {K : PySem.W.Frag} {os : List Addr} {H : Hp} {p : Addr} {d : D} (hp : p ∉ os) (h : Own K (hide (p :: os) H) H p d) : Den K (hide os H) d (.ref p) := by
  cases d with
  | lst ds =>
    obtain ⟨xs, h1, h2⟩ := h
    exact .lst (.of ((hide_off hp).trans h1)) (h2.mono less_hid _ _)
  | dic ks vs =>
    obtain ⟨xs, h1, h2⟩ := h
    refine .dic ?_ (h2.mono less_hid _ _)
    rcases h1 with ⟨kvs, h1, r⟩ | ⟨kvs, h1, r⟩
    · exact .inl ⟨kvs, (hide_off hp).trans h1, r⟩
    · exact .inr ⟨kvs, (hide_off hp).trans h1, r⟩
  | _ => exact h.elim
theorem DF.de {X : Cx} {e : Expr} {m : ME} (h : DF X e m) : DE X e m := by
  obtain ⟨t, p, q⟩ := h
  exact ⟨t, p, fun os σ H δ d Q s m k => q os σ H δ d Q s m fun a H' g ha o => k _ H' g (o.den (s.live.ne ha))⟩
def DT (X : Cx) (e : Expr) (m : MT) : Prop := ∃ t : TT, PT X e t ∧ ∀ os σ H δ b Q, Sl X os H δ σ → m δ = some b → (∀ H', Same H H' → Q b H') → t σ H Q
def DW (X : Cx) (e : Expr) (m : MT) : Prop := ∃ t : TT, PW X e t ∧ ∀ os σ H δ b Q, Sl X os H δ σ → m δ = some b → (∀ H', Same H H' → Q b H') → t σ H Q
def DA (X : Cx) (es : List Expr) (m : MA) : Prop := (∀ δ ds, m δ = some ds → ds.length = es.length) ∧ ∃ t : TA, PA X es t ∧ ∀ os σ H δ ds Q, Sl X os H δ σ → m δ = some ds → (∀ vs H', Same H H' → Dens X.K (hide os H') ds vs → Q vs H') → t σ H Q
theorem DW.dt {X : Cx} {e : Expr} {m : MT} (h : DW X e m) : DT X e m := let ⟨t, p, q⟩ := h; ⟨t, p.pt, q⟩

section
variable {X : Cx} {a b c e : Expr} {es : List Expr} {ma mb mc me : ME} {pos p : Pos}

theorem lt_of_blt {i n : Nat} (h : Nat.blt i n = true) : i < n := Nat.le_of_ble_eq_true h
theorem de_var (i : Nat) (h : PE X e (tVar i)) (hi : Nat.blt i X.N.length = true := by rfl) : DE X e (eVar i) := by
  refine ⟨_, h, fun os σ H δ d Q s m k => ?_⟩
  obtain ⟨v, e1, r⟩ := s.pl i d (lt_of_blt hi) (slot_some m)
  exact ⟨v, e1, k v H (Same.refl _) r⟩
theorem de_c {d : D} {v : V} (h : PE X e (L2.tC v)) (r : ∀ H, Den X.K H d v) : DE X e (eC d) := by
  refine ⟨_, h, fun os σ H δ d' Q s m k => ?_⟩
  cases m
  exact k v H (Same.refl _) (r _)
theorem de_int {i : Int} {j : Nat} : DE X (.Constant (.int i) j pos) (eC (.int i)) := de_c pe_int fun _ => .int i
theorem de_bl {i : Bool} {j : Nat} : DE X (.Constant (.bool i) j pos) (eC (.bl i)) := de_c pe_bl fun _ => .bl i
theorem de_non {j : Nat} : DE X (.Constant .none j pos) (eC .non) := de_c pe_non fun _ => .non
theorem de_str {x : Str} {j : Nat} : DE X (.Constant (.str x) j pos) (eC (.str x)) := de_c pe_str fun _ => .str x
/-- a global int of the text -/
theorem de_glob {x : Str} {i : Int} {t : Tok} (hg : Gl X x) (hm : X.mg x = some (.int i t)) (hd : (x == ("__debug__" : Str)) = false := by decide) : DE X (.Name x pos) (eC (.int i)) :=
  de_c (pe_glob (v := .int i) hg hm ⟨t, rfl⟩ hd) fun _ => .int i

theorem bind_inv {α β : Type} {o : Option α} {f : α → Option β} {r : β} (h : o.bind f = some r) : ∃ x, o = some x ∧ f x = some r := by
  cases o with
  | none => cases h
  | some x => exact ⟨x, rfl, h⟩

/-! operations -/
def OpD (X : Cx) (f : Value → Value → Sem Value) (g : D → D → Option D) : Prop :=
  ∃ r : R2, OpR X f r ∧ ∀ os H, Live os H → ∀ dx dy d x y Q, Den X.K (hide os H) dx x → Den X.K (hide os H) dy y → g dx dy = some d → Fin X.K os H d Q → r x y H Q
def UnD (X : Cx) (f : Value → Sem Value) (g : D → Option D) : Prop :=
  ∃ r, UnR X f r ∧ ∀ os H, Live os H → ∀ dx d x Q, Den X.K (hide os H) dx x → g dx = some d → Fin X.K os H d Q → r x H Q
def IxD (X : Cx) (g : D → D → Option D) : Prop :=
  ∃ r : R2, IxR X r ∧ ∀ os H, Live os H → ∀ dx dy d x y Q, Den X.K (hide os H) dx x → Den X.K (hide os H) dy y → g dx dy = some d → Fin X.K os H d Q → r x y H Q
def CallD (X : Cx) (f : Value) (g : MF) : Prop :=
  ∃ r, CallR X f r ∧ ∀ os H, Live os H → ∀ ds d vs Q, Dens X.K (hide os H) ds vs → g ds = some d → Fin X.K os H d Q → r vs H Q
/-- two in a row -/
theorem two {g : D → D → Option D} {ta tb : TE} {r : R2}
    (qa : ∀ os σ H δ d Q, Sl X os H δ σ → ma δ = some d → Fin X.K os H d Q → ta σ H Q) (qb : ∀ os σ H δ d Q, Sl X os H δ σ → mb δ = some d → Fin X.K os H d Q → tb σ H Q)
    (qr : ∀ os H, Live os H → ∀ dx dy d x y Q, Den X.K (hide os H) dx x → Den X.K (hide os H) dy y → g dx dy = some d → Fin X.K os H d Q → r x y H Q) :
    ∀ os σ H δ d Q, Sl X os H δ σ → eOp g ma mb δ = some d → Fin X.K os H d Q → tOp r ta tb σ H Q := by
  intro os σ H δ d Q s m k
  obtain ⟨dx, e1, m⟩ := bind_inv m
  obtain ⟨dy, e2, m⟩ := bind_inv m
  refine qa os σ H δ dx _ s e1 fun x H1 g1 r1 => ?_
  refine qb os σ H1 δ dy _ (s.mono g1) e2 fun y H2 g2 r2 => ?_
  exact qr os H2 (s.live.mono (g1.trans g2)) dx dy d x y Q (r1.mono (g2).hd _ _) r2 m (k.mono (g1.trans g2))
theorem de_op {op : Operator} {g : D → D → Option D} (ho : OpD X (binaryOp op) g) (ha : DE X a ma) (hb : DE X b mb) : DE X (.BinOp a op b pos) (eOp g ma mb) := by
  obtain ⟨r, hr, qr⟩ := ho
  obtain ⟨ta, pa, qa⟩ := ha
  obtain ⟨tb, pb, qb⟩ := hb
  exact ⟨_, pe_op hr pa pb, two qa qb qr⟩
theorem de_cmp {op : CmpOp} {g : D → D → Option D} (ho : OpD X (compareOp op) g) (ha : DE X a ma) (hb : DE X b mb) (hm : behindInMarks op b = false) : DE X (.Compare a [op] [b] pos) (eOp g ma mb) := by
  obtain ⟨r, hr, qr⟩ := ho
  obtain ⟨ta, pa, qa⟩ := ha
  obtain ⟨tb, pb, qb⟩ := hb
  exact ⟨_, pe_cmpR hr pa pb hm, two qa qb qr⟩
theorem de_ix {g : D → D → Option D} (ho : IxD X g) (ha : DE X a ma) (hb : DE X b mb) (hs : PlainIx b) : DE X (.Subscript a b pos) (eOp g ma mb) := by
  obtain ⟨r, hr, qr⟩ := ho
  obtain ⟨ta, pa, qa⟩ := ha
  obtain ⟨tb, pb, qb⟩ := hb
  exact ⟨_, pe_ix hr pa pb hs, two qa qb qr⟩
theorem de_un {op : UnaryOp} {g : D → Option D} (ho : UnD X (unaryOp op) g) (ha : DE X a ma) : DE X (.UnaryOp op a pos) (eUn g ma) := by
  obtain ⟨r, hr, qr⟩ := ho
  obtain ⟨ta, pa, qa⟩ := ha
  refine ⟨_, pe_un hr pa, fun os σ H δ d Q s m k => ?_⟩
  obtain ⟨dx, e1, m⟩ := bind_inv m
  exact qa os σ H δ dx _ s e1 fun x H1 g1 r1 => qr os H1 (s.live.mono g1) dx d x Q r1 m (k.mono g1)

/-! and, or, not -/
theorem de_one {op : BoolOp} (h : DE X a ma) : DE X (.BoolOp op [a] pos) ma := let ⟨t, p, q⟩ := h; ⟨t, pe_one p, q⟩
theorem de_and {rest : List Expr} (ha : DE X a ma) (hb : DE X (.BoolOp .And (b :: rest) pos) mb) : DE X (.BoolOp .And (a :: b :: rest) pos) (eAnd ma mb) := by
  obtain ⟨ta, pa, qa⟩ := ha
  obtain ⟨tb, pb, qb⟩ := hb
  refine ⟨_, pe_and pa pb, fun os σ H δ d Q s m k => ?_⟩
  obtain ⟨dx, e1, m⟩ := bind_inv m
  refine qa os σ H δ dx _ s e1 fun x H1 g1 r1 => ?_
  cases dx with
  | bl z =>
    refine ⟨z, r1.bl_inv, ?_⟩
    cases z with
    | true => exact iteT (qb os σ H1 δ d Q (s.mono g1) m (k.mono g1))
    | false => cases m; exact iteF (k _ H1 g1 (.bl false))
  | _ => cases m
theorem de_or {rest : List Expr} (ha : DE X a ma) (hb : DE X (.BoolOp .Or (b :: rest) pos) mb) : DE X (.BoolOp .Or (a :: b :: rest) pos) (eOr ma mb) := by
  obtain ⟨ta, pa, qa⟩ := ha
  obtain ⟨tb, pb, qb⟩ := hb
  refine ⟨_, pe_or pa pb, fun os σ H δ d Q s m k => ?_⟩
  obtain ⟨dx, e1, m⟩ := bind_inv m
  refine qa os σ H δ dx _ s e1 fun x H1 g1 r1 => ?_
  cases dx with
  | bl z =>
    refine ⟨z, r1.bl_inv, ?_⟩
    cases z with
    | false => exact iteF (qb os σ H1 δ d Q (s.mono g1) m (k.mono g1))
    | true => cases m; exact iteT (k _ H1 g1 (.bl true))
  | _ => cases m
theorem de_not (ha : DE X a ma) : DE X (.UnaryOp .Not a pos) (eNot ma) := by
  obtain ⟨ta, pa, qa⟩ := ha
  refine ⟨_, pe_not pa, fun os σ H δ d Q s m k => ?_⟩
  obtain ⟨dx, e1, m⟩ := bind_inv m
  refine qa os σ H δ dx _ s e1 fun x H1 g1 r1 => ?_
  cases dx with
  | bl z =>
    cases m
    exact ⟨z, r1.bl_inv, k _ H1 g1 (.bl _)⟩
  | _ => cases m

/-! tests -/
theorem truth_ok {K : PySem.W.Frag} {os : List Addr} {H : Hp} {d : D} {x : V} {b : Bool} (r : Den K (hide os H) d x) (h : truth d = some b) : TruV K x H b := by
  cases d with
  | non => rw [r.non_inv]; cases h; exact rfl
  | bl z => rw [r.bl_inv]; cases h; exact rfl
  | int i => rw [r.int_inv]; cases h; exact rfl
  | str z => cases h
  | dic ks vs => cases h
  | tup ds =>
    obtain ⟨a, xs, rfl, h1, h2⟩ := r.tup_up
    cases h
    refine .inr (.inl ⟨xs, h1, ?_⟩)
    have := h2.length
    cases ds <;> cases xs <;> simp_all
  | lst ds =>
    obtain ⟨a, xs, rfl, h1, h2⟩ := r.lst_up
    cases h
    refine .inl ⟨xs, h1, ?_⟩
    have := h2.length
    cases ds <;> cases xs <;> simp_all
theorem dt_val (ha : DE X a ma) (he : ∀ whole, isTrue a X.env whole = (do let v ← whole; standAt a.pos; holding [v] (truthy v)) := by intro _; rfl) : DT X a (tV ma) := by
  obtain ⟨ta, pa, qa⟩ := ha
  refine ⟨_, pt_truth pa he, fun os σ H δ b Q s m k => ?_⟩
  obtain ⟨dx, e1, m⟩ := bind_inv m
  exact qa os σ H δ dx _ s e1 fun x H1 g1 r1 => ⟨b, truth_ok r1 m, k H1 g1⟩
theorem dt_cmp {op : CmpOp} {g : D → D → Option D} (ho : OpD X (compareOp op) g) (ha : DE X a ma) (hb : DE X b mb) (hm : behindInMarks op b = false)
    (hg : ∀ x y d, g x y = some d → ∃ k, d = .bl k) : DT X (.Compare a [op] [b] pos) (tV (eOp g ma mb)) := by
  obtain ⟨r, hr, qr⟩ := ho
  obtain ⟨ta, pa, qa⟩ := ha
  obtain ⟨tb, pb, qb⟩ := hb
  refine ⟨_, pt_cmpR hr pa pb hm, fun os σ H δ z Q s m k => ?_⟩
  obtain ⟨d, m1, m2⟩ := bind_inv m
  have hb' : ∃ k, d = .bl k := by
    obtain ⟨x, _, m1⟩ := bind_inv m1
    obtain ⟨y, _, m1⟩ := bind_inv m1
    exact hg x y d m1
  obtain ⟨k', rfl⟩ := hb'
  cases m2
  exact two qa qb qr os σ H δ _ _ s m1 fun v H1 g1 r1 => ⟨z, r1.bl_inv, k H1 g1⟩
variable {na nb : MT}
theorem dw_and1 (ha : DT X a na) : DW X (.BoolOp .And [a] pos) na := let ⟨t, p, q⟩ := ha; ⟨t, pw_and1 p, q⟩
theorem dw_or1 (ha : DT X a na) : DW X (.BoolOp .Or [a] pos) na := let ⟨t, p, q⟩ := ha; ⟨t, pw_or1 p, q⟩
theorem dw_and {rest : List Expr} (ha : DT X a na) (hb : DW X (.BoolOp .And (b :: rest) pos) nb) : DW X (.BoolOp .And (a :: b :: rest) pos) (tAnd na nb) := by
  obtain ⟨ta, pa, qa⟩ := ha
  obtain ⟨tb, pb, qb⟩ := hb
  refine ⟨_, pw_and pa pb, fun os σ H δ z Q s m k => ?_⟩
  obtain ⟨x, e1, m⟩ := bind_inv m
  refine qa os σ H δ x _ s e1 fun H1 g1 => ?_
  cases x with
  | true => exact iteT (qb os σ H1 δ z Q (s.mono g1) m fun H2 g2 => k H2 (g1.trans g2))
  | false => cases m; exact iteF (k H1 g1)
theorem dw_or {rest : List Expr} (ha : DT X a na) (hb : DW X (.BoolOp .Or (b :: rest) pos) nb) : DW X (.BoolOp .Or (a :: b :: rest) pos) (tOr na nb) := by
  obtain ⟨ta, pa, qa⟩ := ha
  obtain ⟨tb, pb, qb⟩ := hb
  refine ⟨_, pw_or pa pb, fun os σ H δ z Q s m k => ?_⟩
  obtain ⟨x, e1, m⟩ := bind_inv m
  refine qa os σ H δ x _ s e1 fun H1 g1 => ?_
  cases x with
  | false => exact iteF (qb os σ H1 δ z Q (s.mono g1) m fun H2 g2 => k H2 (g1.trans g2))
  | true => cases m; exact iteT (k H1 g1)
theorem dt_not (ha : DT X a na) : DT X (.UnaryOp .Not a pos) (tNot na) := by
  obtain ⟨ta, pa, qa⟩ := ha
  refine ⟨_, pt_not pa, fun os σ H δ z Q s m k => ?_⟩
  obtain ⟨x, e1, m⟩ := bind_inv m
  cases m
  exact qa os σ H δ x _ s e1 fun H1 g1 => k H1 g1
theorem de_if (hc : DT X c na) (ha : DE X a ma) (hb : DE X b mb) : DE X (.IfExp c a b pos) (eIf na ma mb) := by
  obtain ⟨tc, pc, qc⟩ := hc
  obtain ⟨ta, pa, qa⟩ := ha
  obtain ⟨tb, pb, qb⟩ := hb
  refine ⟨_, pe_ifExp pc pa pb, fun os σ H δ d Q s m k => ?_⟩
  obtain ⟨x, e1, m⟩ := bind_inv m
  refine qc os σ H δ x _ s e1 fun H1 g1 => ?_
  cases x with
  | true => exact iteT (qa os σ H1 δ d Q (s.mono g1) m (k.mono g1))
  | false => exact iteF (qb os σ H1 δ d Q (s.mono g1) m (k.mono g1))

/-! arguments, displays, calls -/
theorem da_nil : DA X [] aNil := ⟨fun δ ds h => by cases h; rfl, _, pa_nil, fun os σ H δ ds Q s m k => by cases m; exact k [] H (Same.refl _) .nil⟩
theorem da_cons {mr : MA} (ha : DE X e me) (hr : DA X es mr) (hs : starEach (e :: es) X.env = (false, eval e X.env) :: starEach es X.env := by rfl) : DA X (e :: es) (aCons me mr) := by
  obtain ⟨ta, pa, qa⟩ := ha
  obtain ⟨hl, tr, pr, qr⟩ := hr
  refine ⟨fun δ ds h => ?_, _, pa_cons pa pr hs, fun os σ H δ ds Q s m k => ?_⟩
  · obtain ⟨x, _, h⟩ := bind_inv h
    obtain ⟨xs, e2, h⟩ := bind_inv h
    cases h
    simp [hl δ xs e2]
  · obtain ⟨x, e1, m⟩ := bind_inv m
    obtain ⟨xs, e2, m⟩ := bind_inv m
    cases m
    refine qa os σ H δ x _ s e1 fun v H1 g1 r1 => ?_
    exact qr os σ H1 δ xs _ (s.mono g1) e2 fun vs H2 g2 r2 => k (v :: vs) H2 (g1.trans g2) (.cons (r1.mono (g2).hd _ _) r2)
theorem de_tup {x1 : Nat} {m : MA} (h : DA X es m) (hn : es.length ≤ sizeLine) : DE X (.Tuple es x1 pos) (eTup m) := by
  obtain ⟨hl, t, p, q⟩ := h
  refine ⟨_, pe_tup p, fun os σ H δ d Q s m k => ?_⟩
  obtain ⟨ds, e1, m⟩ := bind_inv m
  cases m
  refine q os σ H δ ds _ s e1 fun vs H1 g1 r1 => ⟨by rw [← r1.length, hl δ ds e1]; exact hn, fun a ha => ?_⟩
  exact k _ _ (g1.trans (same_new ha (.tup vs))) (.newT (s.live.mono g1) ha r1)
theorem df_lst {m : MA} (h : DA X es m) (hn : es.length ≤ sizeLine) : DF X (.List es pos) (eLst m) := by
  obtain ⟨hl, t, p, q⟩ := h
  refine ⟨_, pe_lst p, fun os σ H δ d Q s m k => ?_⟩
  obtain ⟨ds, e1, m⟩ := bind_inv m
  cases m
  refine q os σ H δ ds _ s e1 fun vs H1 g1 r1 => ⟨by rw [← r1.length, hl δ ds e1]; exact hn, fun a ha => ?_⟩
  exact k a _ (g1.trans (same_new ha (.lst vs))) (g1.free ha) ⟨vs, upd_same, r1.mono (new_own ha _) _ _⟩
theorem de_lst {m : MA} (h : DA X es m) (hn : es.length ≤ sizeLine) : DE X (.List es pos) (eLst m) := (df_lst h hn).de
/-- what a def of the text promises: its mirror's answer; nothing that was tracked changes -/
def spD (K : PySem.W.Frag) (f : MF) : Sp := fun vs H Q _ => ∃ os ds r, Live os H ∧ Dens K (hide os H) ds vs ∧ f ds = some r ∧ Fin K os H r Q
theorem de_call {f : Addr} {fd : FuncData} {ps : List Str} {k : Nat} {x : Str} {fn : MF} {m : MA} (F : FnOk X.prog X.w X.K X.mg X.base CX0 k f fd ps (spD X.K fn)) (hr : Room k X.A) (hg : Gl X x) (hm : X.mg x = some (.ref f)) (hk : PySem.W.keepIn X.K (.ref f) = true)
    (hb : Binds X.K fd ps []) (ha : DA X (e :: es) m) (hdb : (x == ("__debug__" : Str)) = false := by decide) (he : starEach (e :: es) X.env = (false, eval e X.env) :: starEach es X.env := by rfl) (hpl : (backTo pos (starEach es X.env)).any (·.1) = false := by rfl) :
    DE X (.Call (.Name x p) (e :: es) [] pos) (eCall fn m) := by
  obtain ⟨hl, t, pt, q⟩ := ha
  refine ⟨_, pe_call F hr hg hm hk hb .nil pass0 pt hdb he hpl, fun os σ H δ d Q s m k => ?_⟩
  obtain ⟨ds, e1, m⟩ := bind_inv m
  refine q os σ H δ ds _ s e1 fun vs H1 g1 r1 => ?_
  rw [List.append_nil]
  exact ⟨os, ds, d, s.live.mono g1, r1, m, k.mono g1⟩
theorem de_callB {id : String} {x : Str} {fn : MF} {m : MA} (hc : CallD X (.builtin id) fn) (hg : Gl X x) (hm : X.mg x = none) (hv : bootBuiltins x = some (.builtin id)) (ha : DA X (e :: es) m) (hn : x ≠ "__name__" := by decide) (hdb : (x == ("__debug__" : Str)) = false := by decide)
    (he : starEach (e :: es) X.env = (false, eval e X.env) :: starEach es X.env := by rfl) (hpl : (backTo pos (starEach es X.env)).any (·.1) = false := by rfl) :
    DE X (.Call (.Name x p) (e :: es) [] pos) (eCall fn m) := by
  obtain ⟨r, hr, qr⟩ := hc
  obtain ⟨hl, t, pt, q⟩ := ha
  refine ⟨_, pe_callB hr hg hm hv pt hn hdb he hpl, fun os σ H δ d Q s m k => ?_⟩
  obtain ⟨ds, e1, m⟩ := bind_inv m
  exact q os σ H δ ds _ s e1 fun vs H1 g1 r1 => qr os H1 (s.live.mono g1) ds d vs Q r1 m (k.mono g1)
theorem de_callTy {T : String} {x : Str} {fn : MF} {m : MA} (hc : CallD X (.type T) fn) (hg : Gl X x) (hm : X.mg x = none) (hv : bootBuiltins x = some (.type T)) (ha : DA X (e :: es) m) (hn : x ≠ "__name__" := by decide) (hdb : (x == ("__debug__" : Str)) = false := by decide)
    (he : starEach (e :: es) X.env = (false, eval e X.env) :: starEach es X.env := by rfl) (hpl : (backTo pos (starEach es X.env)).any (·.1) = false := by rfl) :
    DE X (.Call (.Name x p) (e :: es) [] pos) (eCall fn m) := by
  obtain ⟨r, hr, qr⟩ := hc
  obtain ⟨hl, t, pt, q⟩ := ha
  refine ⟨_, pe_callTy hr hg hm hv pt hn hdb he hpl, fun os σ H δ d Q s m k => ?_⟩
  obtain ⟨ds, e1, m⟩ := bind_inv m
  exact q os σ H δ ds _ s e1 fun vs H1 g1 r1 => qr os H1 (s.live.mono g1) ds d vs Q r1 m (k.mono g1)
end
end DL

set_option Elab.async false
set_option linter.all false
set_option maxRecDepth 100000
namespace DL
open PySem PySem.Spec PyProof.Rows L2
section
variable {X : Cx}

/-! ### + - * // % -/
def rLL (K : PySem.W.Frag) : R2 := fun x y H Q => ∃ l b xs ys, x = .ref l ∧ y = .ref b ∧ SqL K H l xs ∧ SqL K H b ys ∧ xs.length + ys.length ≤ sizeLine ∧ ∀ p, H p = none → Q (.ref p) (upd H p (.lst (xs ++ ys)))
theorem op_catL : OpR X (binaryOp .Add) (rLL X.K) := by
  intro pins s σ H x y v u Q I rx ry h
  obtain ⟨l, b, xs, ys, rfl, rfl, hl, hb, hz, q⟩ := h
  cases rx
  cases ry
  obtain ⟨its, r1, ⟨⟨c1, d1, dt1, sl1⟩, n1, e1, c1', d1', t1'⟩, _⟩ := I.list hl
  obtain ⟨its2, r2, ⟨⟨c2, d2, dt2, sl2⟩, n2, e2, c2', d2', t2'⟩, _⟩ := I.list hb
  simp only at c1' d1' t1' c2' d2' t2'
  subst c1' d1' t1' c2' d2' t2'
  have l1 := r1.length
  have l2 := r2.length
  refine concat_meets ⟨_, e1, rfl⟩ ⟨_, e2, rfl⟩ noFill_list_add seq_list_add F.slot_list_add F.entry_list_add (F.args_list_add_2 _ _)
    (list_addW l b its.toArray its2.toArray n1 n2 none none sl1 sl2 (by rw [List.size_toArray, List.size_toArray]; omega)) ⟨e1, e2, ?_⟩
  have ea : its.toArray ++ its2.toArray = (its ++ its2).toArray := by simp
  rw [ea]
  exact ⟨.ref _, _, I.lnew (t' := s.toks) (r1.append r2) (by rw [List.length_append]; omega), rfl, q _ I.fresh⟩
def rTT (K : PySem.W.Frag) : R2 := fun x y H Q => ∃ a b xs ys, x = .ref a ∧ y = .ref b ∧ SqT K H a xs ∧ SqT K H b ys ∧ xs.length + ys.length ≤ sizeLine ∧
  (xs = [] → Q (.ref b) H) ∧ (xs ≠ [] → ys = [] → Q (.ref a) H) ∧ (xs ≠ [] → ys ≠ [] → ∀ p, H p = none → Q (.ref p) (upd H p (.tup (xs ++ ys))))
theorem op_catTT : OpR X (binaryOp .Add) (rTT X.K) := by
  intro pins s σ H x y v u Q I rx ry h
  obtain ⟨a, b, xs, ys, rfl, rfl, ha, hb, hz, q0, q1, q2⟩ := h
  by_cases hx : xs = []
  · cases rx
    cases ry
    subst hx
    obtain ⟨its, r1, ⟨⟨c1, d1, dt1, sl1⟩, e1, c1', n1, t1'⟩, _⟩ := I.tuple ha
    obtain ⟨its2, r2, ⟨⟨c2, d2, dt2, sl2⟩, e2, c2', n2, t2'⟩, _⟩ := I.tuple hb
    simp only at c1' t1' c2' t2'
    subst c1' t1' c2' t2'
    have hi : its = [] := r1.nil_iff.mpr rfl
    exact concat_meets ⟨_, e1, rfl⟩ ⟨_, e2, rfl⟩ noFill_tuple_add seq_tuple_add PySem.F.slot_tuple_add PySem.F.entry_tuple_add (PySem.F.args_tuple_add_2 _ _)
      (tuple_addW0 a b its.toArray its2.toArray n1 n2 d1 d2 sl1 sl2 (by simp [hi])) ⟨e1, e2, ⟨.ref b, H, I, rfl, q0 rfl⟩⟩
  · exact op_catT pins s σ H _ _ v u Q I rx ry ⟨a, b, xs, ys, rfl, rfl, ha, hb, hx, hz, q1 hx, q2 hx⟩
theorem lim_eq : sizeLine = 16777216 := sizeLine_eq
theorem od_add : OpD X (binaryOp .Add) oAdd := by
  refine ⟨_, op_add.or (op_catL.or (op_catTT.or op_add_str)), fun os H L dx dy d x y Q rx ry m k => ?_⟩
  cases dx with
  | int i =>
    cases dy with
    | int j =>
      cases m
      exact .inl ⟨i, j, rx.int_inv, ry.int_inv, k _ H (Same.refl _) (.int _)⟩
    | _ => cases m
  | lst xs =>
    cases dy with
    | lst ys =>
      have m' : (if xs.length + ys.length ≤ 16777216 then some (D.lst (xs ++ ys)) else none) = some d := m
      split at m'
      · rename_i hz
        cases m'
        obtain ⟨a, vs, rfl, h1, h2⟩ := rx.lst_up
        obtain ⟨b, ws, rfl, h3, h4⟩ := ry.lst_up
        refine .inr (.inl ⟨a, b, vs, ws, rfl, rfl, h1, h3, by rw [← h2.length, ← h4.length, lim_eq]; exact hz, fun p hp => ?_⟩)
        exact k _ _ (same_new hp (.lst (vs ++ ws))) (.newL L hp (h2.append h4))
      · cases m'
    | _ => cases m
  | tup xs =>
    cases dy with
    | tup ys =>
      have m' : (if xs.length + ys.length ≤ 16777216 then some (D.tup (xs ++ ys)) else none) = some d := m
      split at m'
      · rename_i hz
        cases m'
        obtain ⟨a, vs, rfl, h1, h2⟩ := rx.tup_up
        obtain ⟨b, ws, rfl, h3, h4⟩ := ry.tup_up
        refine .inr (.inr (.inl ⟨a, b, vs, ws, rfl, rfl, h1, h3, by rw [← h2.length, ← h4.length, lim_eq]; exact hz, fun e => ?_, fun _ e => ?_, fun _ _ p hp => ?_⟩))
        · subst e
          have : xs = [] := by have := h2.length; cases xs <;> simp_all
          subst this
          exact k _ H (Same.refl _) ry
        · subst e
          have : ys = [] := by have := h4.length; cases ys <;> simp_all
          subst this
          rw [List.append_nil] at k
          exact k _ H (Same.refl _) rx
        · exact k _ _ (same_new hp (.tup (vs ++ ws))) (.newT L hp (h2.append h4))
      · cases m'
    | _ => cases m
  | str x =>
    cases dy with
    | str y =>
      have m' : (if x.length + y.length ≤ 16777216 then some (D.str (x ++ y)) else none) = some d := m
      split at m'
      · rename_i hz
        cases m'
        exact .inr (.inr (.inr ⟨x, y, rx.str_inv, ry.str_inv, by rw [lim_eq]; exact hz, k _ H (Same.refl _) (.str _)⟩))
      · cases m'
    | _ => cases m
  | _ => cases m
theorem oi_inv {g : Int → Int → Option D} {dx dy d : D} (h : oI g dx dy = some d) : ∃ i j, dx = .int i ∧ dy = .int j ∧ g i j = some d := by
  cases dx with
  | int i =>
    cases dy with
    | int j => exact ⟨i, j, rfl, rfl, h⟩
    | _ => cases h
  | _ => cases h
theorem od_sub : OpD X (binaryOp .Sub) oSub := by
  refine ⟨_, op_sub, fun os H L dx dy d x y Q rx ry m k => ?_⟩
  obtain ⟨i, j, rfl, rfl, m⟩ := oi_inv m
  cases m
  exact ⟨i, j, rx.int_inv, ry.int_inv, k _ H (Same.refl _) (.int _)⟩
theorem od_mod : OpD X (binaryOp .Mod) oMod := by
  refine ⟨_, op_mod, fun os H L dx dy d x y Q rx ry m k => ?_⟩
  obtain ⟨i, j, rfl, rfl, m2⟩ := oi_inv m
  split at m2
  · rename_i hj
    cases m2
    exact ⟨i, j, rx.int_inv, ry.int_inv, hj, k _ H (Same.refl _) (.int _)⟩
  · cases m2
theorem od_fdiv : OpD X (binaryOp .FloorDiv) oFdiv := by
  refine ⟨_, op_fdiv, fun os H L dx dy d x y Q rx ry m k => ?_⟩
  obtain ⟨i, j, rfl, rfl, m2⟩ := oi_inv m
  split at m2
  · rename_i hj
    cases m2
    exact ⟨i, j, rx.int_inv, ry.int_inv, hj, k _ H (Same.refl _) (.int _)⟩
  · cases m2
/-! tuple * int -/
theorem noFill_tuple_mul : fillsNumberSlot (.type "tuple") "mul" = pure false :=
  PySem.fillsNumberSlot_seq (id := "tuple.__mul__") (r := some (.builtin "tuple.__rmul__")) F.slot_tuple_mul.lookup (by decide +kernel) F.slot_tuple_rmul.lookup (by decide +kernel)
theorem repeat_tuple : seqRepeat? (.type "tuple") = pure (some (.builtin "tuple.__mul__")) := by
  unfold seqRepeat?
  rw [PySem.seqSlot_of (T := "tuple") (name := "__mul__") (id := "tuple.__mul__") F.slot_tuple_mul.lookup (by decide +kernel), PySem.seqSlot_of (T := "tuple") (name := "__rmul__") (id := "tuple.__rmul__") F.slot_tuple_rmul.lookup (by decide +kernel)]
  rfl
theorem int_rmul_tuple (a : Int) (t : Tok) (l : Addr) (items : Array Value) (n : Nat) (dd : Option Addr) (sl : Array (Option Value)) :
    Meets (Builtin.«int.__rmul__» ⟨[.int a t, .ref l], []⟩) (fun _ R s => s.heap.get? l = some { cls := .type "tuple", dict := dd, data := .seq items n, slots := sl } ∧ R (.ok (.ret Value.notImplemented)) s) :=
  .of_wp fun prog w A R s h => by obtain ⟨hp, g, d, tk, os⟩ := s; obtain ⟨hl, h⟩ := h; wp_walk; exact ⟨_, rfl, h⟩
end
end DL

set_option Elab.async false
set_option linter.all false
set_option maxRecDepth 100000
namespace DL
open PySem PySem.Spec PyProof.Rows L2

/-! ### statements -/
/-- what a step keeps: all that was tracked and is not owned; what callers hide stays hidden -/
def Fr (X : Cx) (os : List Addr) (H : Hp) (os' : List Addr) (H' : Hp) : Prop := Same (hide os H) (hide os' H') ∧ ∀ b ∈ os, X.H₀ b ≠ none → b ∈ os'
theorem Fr.of {X : Cx} {os : List Addr} {H H' : Hp} (g : Same H H') : Fr X os H os H' := ⟨g.hd, fun _ h _ => h⟩
theorem Fr.trans {X : Cx} {os os1 os2 : List Addr} {H H1 H2 : Hp} (a : Fr X os H os1 H1) (b : Fr X os1 H1 os2 H2) : Fr X os H os2 H2 := ⟨a.1.trans b.1, fun c h n => b.2 c (a.2 c h n) n⟩
/-- what an error of the law's own class asks of the context -/
def Ok (X : Cx) (PX : Prop) (D : Ends) (os : List Addr) (H : Hp) : Rs → Prop
  | .nx δ => ∀ σ H' os', Fr X os H os' H' → Sl X os' H' δ σ → D.nx σ H'
  | .bk δ => ∀ σ H' os', Fr X os H os' H' → Sl X os' H' δ σ → D.bk σ H'
  | .ct δ => ∀ σ H' os', Fr X os H os' H' → Sl X os' H' δ σ → D.ct σ H'
  | .rt d => ∀ v H' os', Fr X os H os' H' → Same X.H₀ H' → Den X.K (hide os' H') d v → D.rt v H'
  | .ex => PX
theorem Ok.mono {X : Cx} {PX : Prop} {D : Ends} {os os' : List Addr} {H H' : Hp} {r : Rs} (e : Fr X os H os' H') (h : Ok X PX D os H r) : Ok X PX D os' H' r := by
  cases r with
  | nx δ => exact fun σ H2 os2 g s => h σ H2 os2 (e.trans g) s
  | bk δ => exact fun σ H2 os2 g s => h σ H2 os2 (e.trans g) s
  | ct δ => exact fun σ H2 os2 g s => h σ H2 os2 (e.trans g) s
  | rt d => exact fun v H2 os2 g => h v H2 os2 (e.trans g)
  | ex => exact h
/-- PX: an error may leave here -/
def DS (X : Cx) (PX : Prop) (st : Stmt) (m : MS) : Prop := ∃ t : TS, PS X st t ∧ ∀ os σ H δ r D, Sl X os H δ σ → m δ = some r → Ok X PX D os H r → t D σ H
def DSs (X : Cx) (PX : Prop) (st : List Stmt) (m : MS) : Prop := ∃ t : TS, PSs X st t ∧ ∀ os σ H δ r D, Sl X os H δ σ → m δ = some r → Ok X PX D os H r → t D σ H
def DG (X : Cx) (e : Expr) (g : MG) : Prop := ∃ t : TG, PG X e t ∧ ∀ os v σ H d δ δ' Q, Sl X os H δ σ → Den X.K (hide os H) d v → g d δ = some δ' → (∀ σ' H', Same H H' → Sl X os H' δ' σ' → Q σ' H') → t v σ H Q
def DGs (X : Cx) (es : List Expr) (g : MGs) : Prop := ∃ t : TGs, PGs X es t ∧ ∀ os vs σ H ds δ δ' Q, Sl X os H δ σ → Dens X.K (hide os H) ds vs → g ds δ = some δ' → (∀ σ' H', Same H H' → Sl X os H' δ' σ' → Q σ' H') → t vs σ H Q

section
variable {X : Cx} {PX : Prop} {st : Stmt} {rest sts sts' : List Stmt} {m m' : MS} {a b c e tg : Expr} {ma mb : ME} {mc : MT} {pos pos' : Pos}
theorem dss_nil : DSs X PX [] sNil := ⟨_, pss_nil, fun os σ H δ r D s m k => by cases m; exact k σ H os (.of (Same.refl _)) s⟩
theorem dss_one (h : DS X PX st m) : DSs X PX [st] m := let ⟨t, p, q⟩ := h; ⟨t, pss_one p, q⟩
theorem dss_cons (h1 : DS X PX st m) (h2 : DSs X PX rest m') : DSs X PX (st :: rest) (sSeq m m') := by
  obtain ⟨t, p, q⟩ := h1
  obtain ⟨t', p', q'⟩ := h2
  refine ⟨_, pss_cons p p', fun os σ H δ r D s m k => ?_⟩
  obtain ⟨r1, e1, m⟩ := bind_inv m
  refine q os σ H δ r1 _ s e1 ?_
  cases r1 with
  | nx δ' => exact fun σ' H' os' g s' => q' os' σ' H' δ' r D s' m (k.mono g)
  | bk δ' => cases m; exact k
  | ct δ' => cases m; exact k
  | rt d => cases m; exact k
  | ex => cases m; exact k
theorem ds_pass : DS X PX (.Pass pos) sNil := ⟨_, ps_pass, fun os σ H δ r D s m k => by cases m; exact k σ H os (.of (Same.refl _)) s⟩
theorem ds_ret (h : DE X e ma) : DS X PX (.Return (some e) pos) (sRet ma) := by
  obtain ⟨t, p, q⟩ := h
  refine ⟨_, ps_ret p, fun os σ H δ r D s m k => ?_⟩
  obtain ⟨d, e1, m⟩ := bind_inv m
  cases m
  exact q os σ H δ d _ s e1 fun v H' g r => k v H' os (.of g) (s.keep.trans g) r
theorem ds_if (hc : DT X c mc) (ha : DSs X PX sts m) (hb : DSs X PX sts' m') : DS X PX (.If c sts sts' pos) (sIf mc m m') := by
  obtain ⟨tc, pc, qc⟩ := hc
  obtain ⟨ta, pa, qa⟩ := ha
  obtain ⟨tb, pb, qb⟩ := hb
  refine ⟨_, ps_if pc pa pb, fun os σ H δ r D s m k => ?_⟩
  obtain ⟨x, e1, m⟩ := bind_inv m
  refine qc os σ H δ x _ s e1 fun H1 g1 => ?_
  cases x with
  | true => exact iteT (qa os σ H1 δ r D (s.mono g1) m (k.mono (.of g1)))
  | false => exact iteF (qb os σ H1 δ r D (s.mono g1) m (k.mono (.of g1)))
/-! targets -/
theorem dg_name {i : Nat} {x : Str} (h : PG X (.Name x pos) (gName i)) (hi : Nat.blt i X.N.length = true := by rfl) : DG X (.Name x pos) (gN i) := by
  refine ⟨_, h, fun os v σ H d δ δ' Q s r m k => ?_⟩
  cases m
  exact k _ H (Same.refl _) (s.set i (lt_of_blt hi) r)
theorem dgs_nil : DGs X [] gsNil := by
  refine ⟨_, pgs_nil, fun os vs σ H ds δ δ' Q s r m k => ?_⟩
  cases ds with
  | nil => cases m; exact ⟨r.unnil, k σ H (Same.refl _) s⟩
  | cons d ds => cases m
theorem dgs_cons {es : List Expr} {g : MG} {gs : MGs} (h1 : DG X e g) (h2 : DGs X es gs)
    (hs : (assignEach (e :: es) X.env).map (·.2) = assign e X.env :: (assignEach es X.env).map (·.2) := by rfl) : DGs X (e :: es) (gsCons g gs) := by
  obtain ⟨t, p, q⟩ := h1
  obtain ⟨t', p', q'⟩ := h2
  refine ⟨_, pgs_cons p p' hs, fun os vs σ H ds δ δ' Q s r m k => ?_⟩
  cases ds with
  | nil => cases m
  | cons d ds =>
    obtain ⟨δ1, e1, m⟩ := bind_inv m
    obtain ⟨x, xs, rfl, h1, h2⟩ := r.uncons
    refine ⟨x, xs, rfl, q os x σ H d δ δ1 _ s h1 e1 fun σ1 H1 g1 s1 => ?_⟩
    exact q' os xs σ1 H1 ds δ1 δ' Q s1 (h2.mono g1.hd _ _) m fun σ2 H2 g2 s2 => k σ2 H2 (g1.trans g2) s2
theorem dg_tup {es : List Expr} {k : Nat} {gs : MGs} (hc : X.calm = true) (h : DGs X es gs) (hl : ∀ ds δ δ', gs ds δ = some δ' → ds.length = es.length)
    (hn : (assignEach es X.env).length = es.length := by rfl) (hst : (assignEach es X.env).findIdx? (·.1) = none := by rfl) : DG X (.Tuple es k pos) (gT gs) := by
  obtain ⟨t, p, q⟩ := h
  refine ⟨_, pg_tup hc p hn hst, fun os v σ H d δ δ' Q s r m kq => ?_⟩
  cases d with
  | tup ds =>
    obtain ⟨a, xs, rfl, h1, h2⟩ := r.tup_up
    exact ⟨a, xs, rfl, h1, by rw [← h2.length]; exact hl ds δ δ' m, q os xs σ H ds δ δ' Q s h2 m kq⟩
  | _ => cases m
theorem gsNil_len (ds : List D) (δ δ' : Ev) (h : gsNil ds δ = some δ') : ds.length = 0 := by
  cases ds with
  | nil => rfl
  | cons _ _ => cases h
theorem gsCons_len {g : MG} {gs : MGs} {n : Nat} (h : ∀ ds δ δ', gs ds δ = some δ' → ds.length = n) (ds : List D) (δ δ' : Ev) (e : gsCons g gs ds δ = some δ') : ds.length = n + 1 := by
  cases ds with
  | nil => cases e
  | cons d ds =>
    obtain ⟨δ1, _, e⟩ := bind_inv e
    simp [h ds δ1 δ' e]
theorem ds_asg {g : MG} (he : DE X e ma) (hg : DG X tg g) (hs : swapsWithSole [tg] e pos.line X.env = pure false := by rfl) (hw : swappedStores [tg] e X.env = pure none := by rfl)
    (h1 : (assignEach [tg] X.env).map (·.2) = [assign tg X.env] := by rfl) : DS X PX (.Assign [tg] e pos) (sAsg ma g) := by
  obtain ⟨t, p, q⟩ := he
  obtain ⟨t', p', q'⟩ := hg
  refine ⟨_, ps_asg p p' hs hw h1, fun os σ H δ r D s m k => ?_⟩
  obtain ⟨d, e1, m⟩ := bind_inv m
  obtain ⟨δ', e2, m⟩ := bind_inv m
  cases m
  refine q os σ H δ d _ s e1 fun v H1 g1 r1 => ?_
  exact q' os v σ H1 d δ δ' _ (s.mono g1) r1 e2 fun σ2 H2 g2 s2 => k σ2 H2 os (.of (g1.trans g2)) s2
theorem ds_par {i j : Nat} {x y : Str} {px py pt : Pos} {kt k2 : Nat} {pt2 : Pos} (hc : X.calm = true) (hN : X.N.Nodup) (hi : X.N[i]? = some x) (hj : X.N[j]? = some y) (hij : i ≠ j)
    (hx : X.env.scope.names.lookup x = some .local) (hy : X.env.scope.names.lookup y = some .local) (ha : DE X a ma) (hb : DE X b mb)
    (hw : swappedStores [.Tuple [.Name x px, .Name y py] kt pt] (.Tuple [a, b] k2 pt2) X.env = pure (some [x, y]))
    (hs : swapsWithSole [.Tuple [.Name x px, .Name y py] kt pt] (.Tuple [a, b] k2 pt2) pos.line X.env = pure false := by rfl)
    (h1 : starEach [a, b] X.env = (false, eval a X.env) :: starEach [b] X.env := by rfl) (h2 : starEach [b] X.env = (false, eval b X.env) :: starEach [] X.env := by rfl) :
    DS X PX (.Assign [.Tuple [.Name x px, .Name y py] kt pt] (.Tuple [a, b] k2 pt2) pos) (sPar i j ma mb) := by
  obtain ⟨ta, pa, qa⟩ := ha
  obtain ⟨tb, pb, qb⟩ := hb
  refine ⟨_, ps_par hc hN hi hj hij hx hy (pa_cons pa (pa_cons pb pa_nil h2) h1) hw hs, fun os σ H δ r D s m k => ?_⟩
  obtain ⟨dx, e1, m⟩ := bind_inv m
  obtain ⟨dy, e2, m⟩ := bind_inv m
  cases m
  refine qa os σ H δ dx _ s e1 fun v H1 g1 r1 => ?_
  refine qb os σ H1 δ dy _ (s.mono g1) e2 fun w H2 g2 r2 => ?_
  exact ⟨v, w, rfl, k _ H2 os (.of (g1.trans g2)) (((s.mono (g1.trans g2)).set i (List.getElem?_eq_some_iff.mp hi).1 (r1.mono g2.hd _ _)).set j (List.getElem?_eq_some_iff.mp hj).1 r2)⟩

/-! loops -/
/-- the data that an iterator yields, one after another; it leaves all as it was; B: what it leans on -/
def Walk (K : PySem.W.Frag) (J : It) (B : Hp) (xs : List D) : Prop := ∀ i os1 H1, Live os1 H1 → Same B (hide os1 H1) → (∀ d, xs[i]? = some d → J.go i H1 ∧ ∀ x H2, J.yld i H1 x H2 → Same H1 H2 ∧ Den K (hide os1 H2) d x) ∧ (i = xs.length → J.stop i H1)
def DI (X : Cx) (tg e : Expr) (m : MI) : Prop := ∃ wi : TI, PI X tg e wi ∧ ∀ os σ H δ xs R, Sl X os H δ σ → m δ = some xs → (∀ J H', Same H H' → Walk X.K J (hide os H') xs → R J H') → wi σ H R
theorem ds_for {iter : Expr} {body : List Stmt} {mi : MI} {g : MG} (hp : PassesOwn (model X.prog X.w) X.A X.env X.xe) (hc : X.calm = true) (hi : DI X tg iter mi) (hg : DG X tg g) (hb : DSs X PX body m)
    (hs : ∀ x, foldedSetIterable iter X.env x = pure x := by intro _; rfl) : DS X PX (.For tg iter body [] pos) (sFor mi g m) := by
  obtain ⟨wi, pi, qi⟩ := hi
  obtain ⟨t', p', q'⟩ := hg
  obtain ⟨tb, pb, qb⟩ := hb
  refine ⟨_, ps_for hp hc pi p' pb hs, fun os σ H δ r D s me k => ?_⟩
  obtain ⟨xs, e1, me⟩ := bind_inv me
  refine qi os σ H δ xs _ s e1 fun J H1 g1 wk => ?_
  refine ⟨fun i n σ2 H2 => n = xs.length - i ∧ i ≤ xs.length ∧ ∃ os2 δ2, Fr X os H1 os2 H2 ∧ Sl X os2 H2 δ2 σ2 ∧ forM g m (xs.drop i) δ2 = some r, ⟨xs.length, by simp, Nat.zero_le _, os, δ, .of (Same.refl _), s.mono g1, by simpa using me⟩, ?_⟩
  rintro i n σ2 H2 ⟨rfl, hi, os2, δ2, g2, s2, m2⟩
  obtain ⟨w1, w2⟩ := wk i os2 H2 s2.live g2.1
  by_cases hlt : i < xs.length
  · have hx : xs[i]? = some xs[i] := List.getElem?_eq_getElem hlt
    obtain ⟨go, yl⟩ := w1 _ hx
    rw [List.drop_eq_getElem_cons hlt, forM] at m2
    obtain ⟨δ3, e3, m2⟩ := bind_inv m2
    obtain ⟨r3, e4, m2⟩ := bind_inv m2
    refine .inr ⟨go, fun σ' H' => ∃ m', m' < xs.length - i ∧ (m' = xs.length - (i + 1) ∧ i + 1 ≤ xs.length ∧ ∃ os2 δ2, Fr X os H1 os2 H' ∧ Sl X os2 H' δ2 σ' ∧ forM g m (xs.drop (i + 1)) δ2 = some r), fun σ' H' h => h, fun x H3 y => ?_⟩
    obtain ⟨g3, r1⟩ := yl x H3 y
    refine q' os2 x σ2 H3 _ δ2 δ3 _ (s2.mono g3) r1 e3 fun σ4 H4 g4 s4 => ?_
    have g14 : Fr X os H1 os2 H4 := g2.trans (.of (g3.trans g4))
    have again : ∀ δ5, forM g m (xs.drop (i + 1)) δ5 = some r → ∀ σ5 H5 os5, Fr X os2 H4 os5 H5 → Sl X os5 H5 δ5 σ5 → ∃ m', m' < xs.length - i ∧ (m' = xs.length - (i + 1) ∧ i + 1 ≤ xs.length ∧ ∃ os2 δ2, Fr X os H1 os2 H5 ∧ Sl X os2 H5 δ2 σ5 ∧ forM g m (xs.drop (i + 1)) δ2 = some r) :=
      fun δ5 h5 σ5 H5 os5 g5 s5 => ⟨xs.length - (i + 1), by omega, rfl, hlt, os5, δ5, g14.trans g5, s5, h5⟩
    refine qb os2 σ4 H4 δ3 r3 _ s4 e4 ?_
    have kk : Ok X PX D os2 H4 r → Ok X PX D os2 H4 r := id
    cases r3 with
    | nx δ5 => exact fun σ5 H5 os5 g5 s5 => again δ5 m2 σ5 H5 os5 g5 s5
    | ct δ5 => exact fun σ5 H5 os5 g5 s5 => again δ5 m2 σ5 H5 os5 g5 s5
    | bk δ5 => cases m2; exact fun σ5 H5 os5 g5 s5 => k σ5 H5 os5 ((Fr.of g1).trans (g14.trans g5)) s5
    | rt d => cases m2; exact Ok.mono (r := .rt d) ((Fr.of g1).trans g14) k
    | ex => cases m2; exact k
  · have e : i = xs.length := by omega
    subst e
    rw [List.drop_length] at m2
    cases m2
    exact .inl ⟨w2 rfl, k σ2 H2 os2 ((Fr.of g1).trans g2) s2⟩
theorem ds_while {body : List Stmt} (hp : PassesOwn (model X.prog X.w) X.A X.env X.xe) (hc : DT X c mc) (hb : DSs X PX body m) : DS X PX (.While c body [] pos) (sWhile mc m) := by
  obtain ⟨tc, pc, qc⟩ := hc
  obtain ⟨tb, pb, qb⟩ := hb
  refine ⟨_, ps_while hp pc pb, fun os σ H δ r D s me k => ?_⟩
  obtain ⟨n0, h0⟩ := sWhile_inv me
  refine ⟨fun n σ2 H2 => ∃ os2 δ2, Fr X os H os2 H2 ∧ Sl X os2 H2 δ2 σ2 ∧ whN mc m n δ2 = some r, ⟨n0, os, δ, .of (Same.refl _), s, h0⟩, ?_⟩
  rintro n σ2 H2 ⟨os2, δ2, g2, s2, m2⟩
  cases n with
  | zero => cases m2
  | succ n =>
    rw [whN] at m2
    obtain ⟨b, e1, m2⟩ := bind_inv m2
    refine qc os2 σ2 H2 δ2 b _ s2 e1 fun H3 g3 => ?_
    cases b with
    | false =>
      rw [if_neg Bool.false_ne_true] at m2
      cases m2
      exact iteF (k σ2 H3 os2 (g2.trans (.of g3)) (s2.mono g3))
    | true =>
      rw [if_pos rfl] at m2
      obtain ⟨r3, e3, m2⟩ := bind_inv m2
      refine iteT ⟨fun σ' H' => ∃ m', m' < n + 1 ∧ (∃ os2 δ2, Fr X os H os2 H' ∧ Sl X os2 H' δ2 σ' ∧ whN mc m m' δ2 = some r), fun σ' H' h => h, ?_⟩
      refine qb os2 σ2 H3 δ2 r3 _ (s2.mono g3) e3 ?_
      have g23 := g2.trans (Fr.of g3)
      cases r3 with
      | nx δ5 => exact fun σ5 H5 os5 g5 s5 => ⟨n, Nat.lt_succ_self _, os5, δ5, g23.trans g5, s5, m2⟩
      | ct δ5 => exact fun σ5 H5 os5 g5 s5 => ⟨n, Nat.lt_succ_self _, os5, δ5, g23.trans g5, s5, m2⟩
      | bk δ5 => cases m2; exact fun σ5 H5 os5 g5 s5 => k σ5 H5 os5 (g23.trans g5) s5
      | rt d => cases m2; exact Ok.mono (r := .rt d) g23 k
      | ex => cases m2; exact k

/-! what is walked -/
theorem walk_list {K : PySem.W.Frag} {B : Hp} {a : Addr} {ds : List D} {xs : List V} (h1 : SqL K B a xs) (h2 : Dens K B ds xs) : Walk K (Itl K a) B ds := by
  intro i os1 H1 L g
  have gu := g.trans hide_le
  refine ⟨fun d hd => ?_, fun hl => ⟨xs, gu.seq h1, by rw [← h2.length, hl]; exact Nat.le_refl _⟩⟩
  obtain ⟨x, hx, r⟩ := h2.get hd
  refine ⟨⟨xs, x, gu.seq h1, hx⟩, fun y H2 z => ?_⟩
  obtain ⟨rfl, z⟩ := z
  have := z xs (gu.seq h1)
  rw [hx] at this
  cases this
  exact ⟨Same.refl _, r.mono g _ _⟩
theorem walk_tup {K : PySem.W.Frag} {B : Hp} {a : Addr} {ds : List D} {xs : List V} (h1 : SqT K B a xs) (h2 : Dens K B ds xs) : Walk K (Itt K a) B ds := by
  intro i os1 H1 L g
  have gu := g.trans hide_le
  refine ⟨fun d hd => ?_, fun hl => ⟨xs, seqT gu h1, by rw [← h2.length, hl]; exact Nat.le_refl _⟩⟩
  obtain ⟨x, hx, r⟩ := h2.get hd
  refine ⟨⟨xs, x, seqT gu h1, hx⟩, fun y H2 z => ?_⟩
  obtain ⟨rfl, z⟩ := z
  have := z xs (seqT gu h1)
  rw [hx] at this
  cases this
  exact ⟨Same.refl _, r.mono g _ _⟩
theorem walk_range {K : PySem.W.Frag} {H : Hp} (n : Nat) : Walk K (Itr 0 n) H (rangeD n) := by
  intro i os1 H1 L g
  have hlen : (rangeD n).length = n := by simp [rangeD]
  refine ⟨fun d hd => ?_, fun hl => by rw [hlen] at hl; exact Nat.le_of_eq hl.symm⟩
  have hi : i < n := by
    have := (List.getElem?_eq_some_iff.mp hd).1
    rw [hlen] at this
    exact this
  refine ⟨hi, fun y H2 z => ?_⟩
  obtain ⟨rfl, rfl⟩ := z
  have e : d = .int (0 + (i : Int)) := by
    unfold rangeD at hd
    rw [List.getElem?_map, List.getElem?_range hi] at hd
    cases hd
    simp
  subst e
  exact ⟨Same.refl _, .int _⟩
/-- a list or a tuple, whichever it is -/
def iEither (K : PySem.W.Frag) (tl : TE) : TI := fun σ H R => tl σ H fun x H1 => ∃ a, x = .ref a ∧ (((∃ xs, SqL K H1 a xs) ∧ R (Itl K a) H1) ∨ ((∃ xs, SqT K H1 a xs) ∧ R (Itt K a) H1))
theorem pi_either {l : Expr} {tl : TE} (hl : PE X l tl) : PI X tg l (iEither X.K tl) := by
  intro pins s σ H R I h
  refine thn (hl pins s σ H _ I h) fun v s1 ⟨x, H1, I1, r1, q1⟩ => ?_
  obtain ⟨a, e, q⟩ := q1
  subst e
  cases r1
  have fp : ∀ b ∈ [s1.heap.objs.size], FpOk X pins H1 b := fun b hb => by
    have e : b = s1.heap.objs.size := by simpa using hb
    subst e
    exact I1.fpOk (Nat.le_refl _) (I1.hok.fresh (Nat.le_refl _))
  rcases q with ⟨⟨xs, hq⟩, q⟩ | ⟨⟨xs, hq⟩, q⟩
  · obtain ⟨its, rv, p, hz⟩ := I1.list hq
    refine wpAny_pyIter_list p.isList ?_
    exact ⟨s1.heap.objs.size, [s1.heap.objs.size], _, _, H1, rfl, I1.kept (t' := s1.toks) fun b o e => Heap.get?_push_of_some _ e, turn_list a _, ⟨_, Heap.get?_push_size _ rfl, rfl, rfl⟩, fp, q⟩
  · obtain ⟨its, rv, p, hz⟩ := I1.tuple hq
    refine wpAny_pyIter_tuple (show s1.heap.IsTuple a its.toArray from p) ?_
    exact ⟨s1.heap.objs.size, [s1.heap.objs.size], _, _, H1, rfl, I1.kept (t' := s1.toks) fun b o e => Heap.get?_push_of_some _ e, turn_tuple a _, ⟨_, Heap.get?_push_size _ rfl, rfl, rfl⟩, fp, q⟩
theorem di_seq {l : Expr} (h : DE X l ma) : DI X tg l (iSeq ma) := by
  obtain ⟨t, p, q⟩ := h
  refine ⟨_, pi_either p, fun os σ H δ xs R s m k => ?_⟩
  obtain ⟨d, e1, m⟩ := bind_inv m
  refine q os σ H δ d _ s e1 fun v H1 g1 r1 => ?_
  cases d with
  | tup ds =>
    cases m
    obtain ⟨a, ys, rfl, h1, h2⟩ := r1.tup_inv
    exact ⟨a, rfl, .inr ⟨⟨ys, .of (hide_le _ _ h1)⟩, k _ H1 g1 (walk_tup (.of h1) h2)⟩⟩
  | lst ds =>
    cases m
    obtain ⟨a, ys, rfl, h1, h2⟩ := r1.lst_inv
    exact ⟨a, rfl, .inl ⟨⟨ys, hide_le.seq h1⟩, k _ H1 g1 (walk_list h1 h2)⟩⟩
  | _ => cases m
theorem di_range {p : Pos} (hg : Gl X "range") (hm : X.mg "range" = none) (h : DE X a ma) (hs : starEach [a] X.env = (false, eval a X.env) :: starEach [] X.env := by rfl) (hs' : starEach [a] X.env = [(false, eval a X.env)] := by rfl) :
    DI X tg (.Call (.Name "range" p) [a] [] pos) (iRange ma) := by
  obtain ⟨t, pt, q⟩ := h
  refine ⟨_, pi_range1 hg hm (pa_cons pt pa_nil hs) hs', fun os σ H δ xs R s m k => ?_⟩
  obtain ⟨d, e1, m⟩ := bind_inv m
  refine q os σ H δ d _ s e1 fun v H1 g1 r1 => ?_
  cases d with
  | int j =>
    have m' : (if -1073741824 < j ∧ j < 1073741824 then some (rangeD j.toNat) else none) = some xs := m
    split at m'
    · rename_i hj
      cases m'
      rw [r1.int_inv]
      exact ⟨j, rfl, by omega, by omega, k _ H1 g1 (walk_range _)⟩
    · cases m'
  | _ => cases m

/-! ### a def -/
/-- the names at a def's entry; kk: their number, twice where some are owned -/
theorem sl_start {X : Cx} {os : List Addr} {H : Hp} {ds : List D} {vs : List V} {np kk : Nat} (L : Live os H) (hH : X.H₀ = H) (d : Dens X.K (hide os H) ds vs) (hl : ds.length = np) (hp : np ≤ X.N.length) (hk : X.N.length ≤ kk) :
    Sl X os H (ds.map some ++ List.replicate (kk - np) none) (L2.start X.N vs) := by
  have hv := d.length
  have none_at : ∀ i z, ds.length ≤ i → (ds.map some ++ List.replicate (kk - np) none)[i]? = some (some z) → False := fun i z hi hz => by
    rw [List.getElem?_append_right (by simpa using hi), List.getElem?_replicate] at hz
    split at hz <;> cases hz
  refine ⟨by unfold L2.start; simp; omega, by simp; omega, fun i z hi hz => ?_, fun i z hi h1 h2 => (none_at _ z (by omega) h2).elim, fun i j z y a hi hj h1 h2 h3 h4 => (none_at _ z (by omega) h3).elim, L, hH ▸ Same.refl _⟩
  by_cases hi' : i < ds.length
  · unfold L2.start
    rw [List.getElem?_append_left (by simpa using hi'), List.getElem?_map] at hz
    rw [List.getElem?_append_left (by rw [List.length_map, ← hv]; exact hi'), List.getElem?_map]
    cases hq : ds[i]? with
    | none => rw [hq] at hz; cases hz
    | some y =>
      rw [hq] at hz
      cases hz
      obtain ⟨v, hv, rv⟩ := d.get hq
      exact ⟨v, by rw [hv]; rfl, rv⟩
  · exact (none_at i z (by omega) hz).elim
theorem fn_ok {P : Program} {w : World} {K : PySem.W.Frag} {mg : Str → Option Value} {base : Heap} {x qual : Str} {st : Stmt} {f : Addr} {fd : FuncData} {N ps : List Str} {k kk : Nat} (hkk : N.length ≤ kk) (F : Fun K x qual st f fd) (S : FnScope N ps (defScope st))
    (h : ∀ (cdv : Value) (A : Around) (outer : List Env) (s : Shared) (H : Hp) (E : XK), Room k (A.deeper (envOfC qual (defScope st) s.heap.objs.size f cdv)) →
      DSs (cxOf CX0 P w K mg base N qual (defScope st) f cdv A outer s H E).nox False (defBody st) m) :
    FnOk P w K mg base CX0 (k + 1) f fd ps (spD K (fnM ps.length kk m)) := by
  have hpl : ps.length ≤ N.length := by have := congrArg List.length S.pre; rw [List.length_take] at this; omega
  have inv : ∀ ds r, fnM ps.length kk m ds = some r → ds.length = ps.length ∧ ((m (ds.map some ++ List.replicate (kk - ps.length) none) = some (.rt r)) ∨ (∃ δ, m (ds.map some ++ List.replicate (kk - ps.length) none) = some (.nx δ) ∧ r = .non)) := by
    intro ds r e
    unfold fnM at e
    split at e
    · rename_i hl
      obtain ⟨q, e1, e⟩ := bind_inv e
      refine ⟨hl, ?_⟩
      cases q with
      | rt d => cases e; exact .inl e1
      | nx δ => cases e; exact .inr ⟨δ, e1, rfl⟩
      | bk δ => cases e
      | ct δ => cases e
      | ex => cases e
    · cases e
  refine F.ok S (fun vs H Q E hq => ?_) (fun cdv A outer s H vs Q E hr hq => ?_)
  · obtain ⟨os, ds, r, L, d, e, _⟩ := hq
    rw [← d.length]
    exact (inv ds r e).1
  · obtain ⟨os, ds, r, L, d, e, kq⟩ := hq
    obtain ⟨t, p, q⟩ := h cdv A outer s H E hr
    obtain ⟨hl, e2⟩ := inv ds r e
    have s0 := sl_start (X := (cxOf CX0 P w K mg base N qual (defScope st) f cdv A outer s H E).nox) (kk := kk) L rfl d hl hpl hkk
    refine ⟨t, p, ?_⟩
    rcases e2 with e2 | ⟨δ, e2, e3⟩
    · refine q os _ H _ (.rt r) _ s0 e2 fun v H' os' fr sm dn => kq v H' sm (dn.mono (fun b o z => ?_) _ _)
      have hb : b ∉ os' := fun y => by rw [hide_on y] at z; cases z
      rw [hide_off hb] at z
      have hb2 : b ∉ os := fun y => hb (fr.2 b y fun n => by
        obtain ⟨o', e', _⟩ := L b y
        have n' : H b = none := n
        rw [n'] at e'
        cases e')
      rw [hide_off hb2]
      exact z
    · subst e3
      exact q os _ H _ (.nx δ) _ s0 e2 fun σ H' os' fr sl => kq .non H' sl.keep .non
end
end DL

set_option Elab.async false
set_option linter.all false
set_option maxRecDepth 100000
namespace DL
open PySem PySem.Spec PyProof.Rows L2
section
variable {X : Cx} {os : List Addr} {H H' : Hp} {δ : Ev} {σ : L2.St}
theorem slot_none {i : Nat} (h : i < δ.length) (e : slot δ i = none) : δ[i]? = some none := by
  unfold slot at e
  rw [List.getElem?_eq_getElem h] at e ⊢
  exact congrArg some e
theorem Sl.own_at (s : Sl X os H δ σ) {n i : Nat} {d : D} (hn : X.N.length = n) (hi : i < n) (h : ownAt n i δ = some d) :
    δ[i]? = some none ∧ δ[n + i]? = some (some d) ∧ ∃ a, σ[i]? = some (some (.ref a)) ∧ a ∈ os ∧ (X.fn "" = true → X.H₀ a = none) ∧ Own X.K (hide os H) H a d := by
  subst hn
  unfold ownAt at h
  cases e : slot δ i with
  | some y => rw [e] at h; cases h
  | none =>
    rw [e] at h
    have h1 := slot_none (Nat.lt_of_lt_of_le hi s.len) e
    have h2 := slot_some h
    exact ⟨h1, h2, s.ow i d hi h1 h2⟩
/-- a made list or dict becomes a name's own -/
theorem Sl.make (s : Sl X os H δ σ) {n i : Nat} {d : D} {p : Addr} (hn : X.N.length = n) (hi : i < n) (g : Same H H') (hp : H p = none) (o : Own X.K (hide (p :: os) H') H' p d) : Sl X (p :: os) H' (setOwn n i d δ) (σ.set i (some (.ref p))) := by
  subst hn
  have np := s.live.ne hp
  have big : Same (hide os H) (hide (p :: os) H') := fun b u e => by
    have hb : b ∉ os := fun z => by rw [hide_on z] at e; cases e
    rw [hide_off hb] at e
    have hbp : b ≠ p := ne_of_none e hp
    rw [hide_off (by simp [hb, hbp])]
    exact g _ _ e
  have lv : ∃ u, H' p = some u ∧ NoTup u := by
    cases d with
    | lst ds => obtain ⟨xs, h1, _⟩ := o; exact ⟨_, h1, True.intro⟩
    | dic ks vs => obtain ⟨xs, h1, _⟩ := o; rcases h1 with ⟨_, h1, _⟩ | ⟨_, h1, _⟩ <;> exact ⟨_, h1, True.intro⟩
    | _ => exact o.elim
  have own_up : ∀ {a : Addr} {e : D}, Own X.K (hide os H) H a e → Own X.K (hide (p :: os) H') H' a e := fun {a e} h => by
    cases e with
    | lst ds => obtain ⟨xs, h1, h2⟩ := h; exact ⟨xs, g _ _ h1, h2.mono big _ _⟩
    | dic ks vs => obtain ⟨xs, h1, h2⟩ := h; exact ⟨xs, h1.mono g, h2.mono big _ _⟩
    | _ => exact h
  have hid : i < δ.length := Nat.lt_of_lt_of_le hi s.len
  have at_i : ∀ {e : D}, (setOwn X.N.length i d δ)[X.N.length + i]? = some (some e) → e = d := fun {e} h => by
    unfold setOwn at h
    by_cases hl : X.N.length + i < δ.length
    · rw [List.getElem?_set_self (by simpa using hl)] at h; cases h; rfl
    · rw [List.getElem?_eq_none (by simpa using hl)] at h; cases h
  have off : ∀ {j : Nat}, j ≠ i → j ≠ X.N.length + i → (setOwn X.N.length i d δ)[j]? = δ[j]? := fun {j} h1 h2 => by
    unfold setOwn
    rw [List.getElem?_set_ne (Ne.symm h2), List.getElem?_set_ne (Ne.symm h1)]
  have self_none : (setOwn X.N.length i d δ)[i]? = some none := by
    unfold setOwn
    rw [List.getElem?_set_ne (by omega), List.getElem?_set_self hid]
  have sig : ∀ {j : Nat}, j ≠ i → (σ.set i (some (V.ref p)))[j]? = σ[j]? := fun {j} h => List.getElem?_set_ne (Ne.symm h)
  have sigi : (σ.set i (some (V.ref p)))[i]? = some (some (.ref p)) := List.getElem?_set_self (by rw [s.n]; exact hi)
  have p0 : X.H₀ p = none := s.keep.free hp
  refine ⟨by simpa using s.n, by unfold setOwn; simpa using s.len, fun j e hj h => ?_, fun j e hj h1 h2 => ?_, fun j k e f a hj hk h1 h2 h3 h4 h5 h6 => ?_, fun a ha => ?_, s.keep.trans g⟩
  · by_cases hji : j = i
    · subst hji; rw [self_none] at h; cases h
    · rw [off hji (by omega)] at h
      obtain ⟨v, e1, r⟩ := s.pl j e hj h
      exact ⟨v, (sig hji).trans e1, r.mono big _ _⟩
  · by_cases hji : j = i
    · subst hji
      have := at_i h2
      subst this
      exact ⟨p, sigi, List.mem_cons_self, fun _ => p0, o⟩
    · rw [off hji (by omega)] at h1
      rw [off (by omega) (by omega)] at h2
      obtain ⟨a, e1, e2, e3, e4⟩ := s.ow j e hj h1 h2
      exact ⟨a, (sig hji).trans e1, List.mem_cons_of_mem _ e2, e3, own_up e4⟩
  · by_cases hji : j = i
    · by_cases hki : k = i
      · rw [hji, hki]
      · exfalso
        subst hji
        rw [off hki (by omega)] at h2
        rw [off (by omega) (by omega)] at h4
        obtain ⟨a', e1, e2, _⟩ := s.ow k f hk h2 h4
        rw [sigi] at h5
        rw [sig hki, e1] at h6
        cases h5
        cases h6
        exact np e2
    · rw [off hji (by omega)] at h1
      rw [off (by omega) (by omega)] at h3
      by_cases hki : k = i
      · exfalso
        subst hki
        obtain ⟨a', e1, e2, _⟩ := s.ow j e hj h1 h3
        rw [sigi] at h6
        rw [sig hji, e1] at h5
        cases h5
        cases h6
        exact np e2
      · rw [off hki (by omega)] at h2
        rw [off (by omega) (by omega)] at h4
        exact s.inj j k e f a hj hk h1 h2 h3 h4 ((sig hji).symm.trans h5) ((sig hki).symm.trans h6)
  · rcases List.mem_cons.mp ha with rfl | ha
    · exact lv
    · exact (s.live.mono g) a ha
theorem fr_make {p : Addr} (g : Same H H') (hp : H p = none) : Fr X os H (p :: os) H' := by
  refine ⟨fun b u e => ?_, fun b h _ => List.mem_cons_of_mem _ h⟩
  have hb : b ∉ os := fun z => by rw [hide_on z] at e; cases e
  rw [hide_off hb] at e
  have hbp : b ≠ p := ne_of_none e hp
  rw [hide_off (by simp [hb, hbp])]
  exact g _ _ e
/-- an owned object changes -/
theorem Sl.chg (s : Sl X os H δ σ) {n i : Nat} {d d' : D} {a : Addr} {o : HO} (hn : X.N.length = n) (hi : i < n) (hfn : X.fn "" = true) (h : ownAt n i δ = some d) (ha : σ[i]? = some (some (.ref a))) (ho : Own X.K (hide os H) (upd H a o) a d') :
    Sl X os (upd H a o) (δ.set (n + i) (some d')) σ ∧ Fr X os H os (upd H a o) := by
  obtain ⟨h1, h2, a', e1, e2, e3, e4⟩ := s.own_at hn hi h
  subst hn
  rw [ha] at e1
  cases e1
  have hd : hide os (upd H a o) = hide os H := by
    funext b
    by_cases hb : b ∈ os
    · rw [hide_on hb, hide_on hb]
    · rw [hide_off hb, hide_off hb, upd_ne (fun z : b = a => hb (by rw [z]; exact e2))]
  have off : ∀ {j : Nat}, j ≠ X.N.length + i → (δ.set (X.N.length + i) (some d'))[j]? = δ[j]? := fun {j} h => List.getElem?_set_ne (Ne.symm h)
  have at_i : ∀ {e : D}, (δ.set (X.N.length + i) (some d'))[X.N.length + i]? = some (some e) → e = d' := fun {e} h => by
    by_cases hl : X.N.length + i < δ.length
    · rw [List.getElem?_set_self hl] at h; cases h; rfl
    · rw [List.getElem?_eq_none (by simpa using hl)] at h; cases h
  have back : ∀ {j : Nat} {e : D}, j < X.N.length → (δ.set (X.N.length + i) (some d'))[X.N.length + j]? = some (some e) → ∃ e', δ[X.N.length + j]? = some (some e') := fun {j e} hj h => by
    by_cases hji : j = i
    · subst hji; exact ⟨d, h2⟩
    · rw [off (by omega)] at h; exact ⟨e, h⟩
  refine ⟨⟨s.n, by simpa using s.len, fun j e hj h => ?_, fun j e hj q1 q2 => ?_, fun j k e f b hj hk q1 q2 q3 q4 q5 q6 => ?_, fun b hb => ?_, fun b u e => ?_⟩, ⟨by rw [hd]; exact Same.refl _, fun _ h _ => h⟩⟩
  · rw [off (by omega)] at h
    obtain ⟨v, r1, r2⟩ := s.pl j e hj h
    exact ⟨v, r1, by rw [hd]; exact r2⟩
  · rw [off (by omega)] at q1
    by_cases hji : j = i
    · subst hji
      have := at_i q2
      subst this
      exact ⟨a, ha, e2, e3, by rw [hd]; exact ho⟩
    · rw [off (by omega)] at q2
      obtain ⟨b, r1, r2, r3, r4⟩ := s.ow j e hj q1 q2
      have hba : b ≠ a := fun z => by
        subst z
        exact hji (s.inj j i e d b hj hi q1 h1 q2 h2 r1 ha)
      refine ⟨b, r1, r2, r3, ?_⟩
      rw [hd]
      cases e with
      | lst ds => obtain ⟨xs, w1, w2⟩ := r4; exact ⟨xs, (upd_ne hba).trans w1, w2⟩
      | dic ks vs =>
        obtain ⟨xs, w1, w2⟩ := r4
        refine ⟨xs, ?_, w2⟩
        rcases w1 with ⟨kvs, w1, r⟩ | ⟨kvs, w1, r⟩
        · exact .inl ⟨kvs, (upd_ne hba).trans w1, r⟩
        · exact .inr ⟨kvs, (upd_ne hba).trans w1, r⟩
      | _ => exact r4
  · rw [off (by omega)] at q1 q2
    obtain ⟨e', w1⟩ := back hj q3
    obtain ⟨f', w2⟩ := back hk q4
    exact s.inj j k e' f' b hj hk q1 q2 w1 w2 q5 q6
  · by_cases hba : b = a
    · subst hba
      refine ⟨o, upd_same, ?_⟩
      cases d' with
      | lst ds => obtain ⟨xs, w1, _⟩ := ho; rw [upd_same] at w1; cases w1; exact True.intro
      | dic ks vs => obtain ⟨xs, w1, _⟩ := ho; rcases w1 with ⟨_, w1, _⟩ | ⟨_, w1, _⟩ <;> (rw [upd_same] at w1; cases w1; exact True.intro)
      | _ => exact ho.elim
    · obtain ⟨u, e, n⟩ := s.live b hb; exact ⟨u, (upd_ne hba).trans e, n⟩
  · rw [upd_ne (ne_of_none e (e3 hfn))]
    exact s.keep b u e
/-- an owned list or dict becomes plain data -/
theorem Sl.frz (s : Sl X os H δ σ) {n i : Nat} (hn : X.N.length = n) (hi : i < n) : ∃ os', Sl X os' H (frz n i δ) σ ∧ (∀ b ∈ os', b ∈ os) ∧ (∀ b ∈ os, b ∉ os' → (X.fn "" = true → X.H₀ b = none) ∧ ∃ d, Own X.K (hide os H) H b d) := by
  unfold DL.frz
  cases h : ownAt n i δ with
  | none => exact ⟨os, s, fun _ z => z, fun b h1 h2 => absurd h1 h2⟩
  | some d =>
    obtain ⟨h1, h2, a, e1, e2, e3, e4⟩ := s.own_at hn hi h
    subst hn
    have hid : i < δ.length := Nat.lt_of_lt_of_le hi s.len
    have hid2 : X.N.length + i < δ.length := (List.getElem?_eq_some_iff.mp h2).1
    have mem : ∀ b, b ∈ os.filter (fun c => decide (c ≠ a)) ↔ b ∈ os ∧ b ≠ a := fun b => by simp
    have na : a ∉ os.filter (fun c => decide (c ≠ a)) := fun z => ((mem a).mp z).2 rfl
    have big : Same (hide os H) (hide (os.filter (fun c => decide (c ≠ a))) H) := fun b u e => by
      have hb : b ∉ os := fun z => by rw [hide_on z] at e; cases e
      rw [hide_off hb] at e
      rw [hide_off (fun z => hb ((mem b).mp z).1)]
      exact e
    have dn : Den X.K (hide (os.filter (fun c => decide (c ≠ a))) H) d (.ref a) := by
      cases d with
      | lst ds => obtain ⟨xs, w1, w2⟩ := e4; exact .lst (.of ((hide_off na).trans w1)) (w2.mono big _ _)
      | dic ks vs =>
        obtain ⟨xs, w1, w2⟩ := e4
        refine .dic ?_ (w2.mono big _ _)
        rcases w1 with ⟨kvs, w1, r⟩ | ⟨kvs, w1, r⟩
        · exact .inl ⟨kvs, (hide_off na).trans w1, r⟩
        · exact .inr ⟨kvs, (hide_off na).trans w1, r⟩
      | _ => exact e4.elim
    have off : ∀ {j : Nat}, j ≠ i → j ≠ X.N.length + i → ((δ.set i (some d)).set (X.N.length + i) none)[j]? = δ[j]? := fun {j} q1 q2 => by
      rw [List.getElem?_set_ne (Ne.symm q2), List.getElem?_set_ne (Ne.symm q1)]
    have at_i : ((δ.set i (some d)).set (X.N.length + i) none)[i]? = some (some d) := by
      rw [List.getElem?_set_ne (by omega), List.getElem?_set_self hid]
    have at_n : ((δ.set i (some d)).set (X.N.length + i) none)[X.N.length + i]? = some none := by
      rw [List.getElem?_set_self (by simpa using hid2)]
    refine ⟨os.filter (fun c => decide (c ≠ a)), ⟨s.n, by simpa using s.len, fun j e hj q => ?_, fun j e hj q1 q2 => ?_, fun j k e f b hj hk q1 q2 q3 q4 q5 q6 => ?_, fun b hb => s.live b ((mem b).mp hb).1, s.keep⟩, fun b hb => ((mem b).mp hb).1, fun b hb hn => ?_⟩
    · by_cases hji : j = i
      · subst hji
        rw [at_i] at q
        cases q
        exact ⟨_, e1, dn⟩
      · rw [off hji (by omega)] at q
        obtain ⟨v, r1, r2⟩ := s.pl j e hj q
        exact ⟨v, r1, r2.mono big _ _⟩
    · by_cases hji : j = i
      · subst hji; rw [at_i] at q1; cases q1
      · rw [off hji (by omega)] at q1
        rw [off (by omega) (by omega)] at q2
        obtain ⟨b, r1, r2, r3, r4⟩ := s.ow j e hj q1 q2
        have hba : b ≠ a := fun z => by
          subst z
          exact hji (s.inj j i e d b hj hi q1 h1 q2 h2 r1 e1)
        refine ⟨b, r1, (mem b).mpr ⟨r2, hba⟩, r3, ?_⟩
        cases e with
        | lst ds => obtain ⟨xs, w1, w2⟩ := r4; exact ⟨xs, w1, w2.mono big _ _⟩
        | dic ks vs => obtain ⟨xs, w1, w2⟩ := r4; exact ⟨xs, w1, w2.mono big _ _⟩
        | _ => exact r4
    · by_cases hji : j = i
      · subst hji; rw [at_i] at q1; cases q1
      · by_cases hki : k = i
        · subst hki; rw [at_i] at q2; cases q2
        · rw [off hji (by omega)] at q1
          rw [off hki (by omega)] at q2
          rw [off (by omega) (by omega)] at q3 q4
          exact s.inj j k e f b hj hk q1 q2 q3 q4 q5 q6
    · have : b = a := Classical.byContradiction fun z => hn ((mem b).mpr ⟨hb, z⟩)
      subst this
      exact ⟨e3, d, e4⟩
theorem Sl.frzs {n : Nat} (hn : X.N.length = n) : ∀ (is : List Nat) {os : List Addr} {δ : Ev}, (∀ i ∈ is, i < n) → Sl X os H δ σ → ∃ os', Sl X os' H (frzs n is δ) σ ∧ (∀ b ∈ os', b ∈ os) ∧ (∀ b ∈ os, b ∉ os' → (X.fn "" = true → X.H₀ b = none) ∧ ∃ B d, Own X.K B H b d)
  | [], os, δ, _, s => ⟨os, s, fun _ z => z, fun b h1 h2 => absurd h1 h2⟩
  | i :: is, os, δ, hi, s => by
    obtain ⟨os1, s1, a1, b1⟩ := s.frz hn (hi i List.mem_cons_self)
    obtain ⟨os2, s2, a2, b2⟩ := Sl.frzs hn is (fun j h => hi j (List.mem_cons_of_mem _ h)) s1
    refine ⟨os2, s2, fun b h => a1 b (a2 b h), fun b h h' => ?_⟩
    by_cases h1 : b ∈ os1
    · exact b2 b h1 h'
    · obtain ⟨q1, d, q2⟩ := b1 b h h1
      exact ⟨q1, _, d, q2⟩
theorem fr_frz {os' : List Addr} (hfn : X.fn "" = true) (h1 : ∀ b ∈ os', b ∈ os) (h2 : ∀ b ∈ os, b ∉ os' → (X.fn "" = true → X.H₀ b = none) ∧ ∃ B d, Own X.K B H b d) : Fr X os H os' H := by
  refine ⟨fun b u e => ?_, fun b h n => ?_⟩
  · have hb : b ∉ os := fun z => by rw [hide_on z] at e; cases e
    rw [hide_off hb] at e
    rw [hide_off (fun z => hb (h1 b z))]
    exact e
  · exact Classical.byContradiction fun z => n ((h2 b h z).1 hfn)
/-! what has no list in it does not lean on what is hidden -/
mutual
theorem Den.fl {K : PySem.W.Frag} {B B' : Hp} (h : ∀ a xs, B a = some (.tup xs) → B' a = some (.tup xs)) : ∀ (d : D) (v : V), DL.flat d = true → Den K B d v → Den K B' d v
  | .non, _, _, q => by simp only [Den] at q ⊢; exact q
  | .bl _, _, _, q => by simp only [Den] at q ⊢; exact q
  | .int _, _, _, q => by simp only [Den] at q ⊢; exact q
  | .str _, _, _, q => by simp only [Den] at q ⊢; exact q
  | .tup ds, _, f, q => by
    simp only [Den] at q ⊢
    obtain ⟨a, xs, e1, h1, h2⟩ := q
    exact ⟨a, xs, e1, h a xs h1, Dens.fl h ds xs (by simpa only [DL.flat] using f) h2⟩
  | .lst ds, _, f, _ => by simp [DL.flat] at f
  | .dic ks ds, _, f, _ => by simp [DL.flat] at f
theorem Dens.fl {K : PySem.W.Frag} {B B' : Hp} (h : ∀ a xs, B a = some (.tup xs) → B' a = some (.tup xs)) : ∀ (ds : List D) (xs : List V), DL.flats ds = true → Dens K B ds xs → Dens K B' ds xs
  | [], _, _, q => by simp only [Dens] at q ⊢; exact q
  | d :: ds, _, f, q => by
    simp only [Dens] at q ⊢
    obtain ⟨x, r, e1, h1, h2⟩ := q
    simp only [DL.flats, Bool.and_eq_true] at f
    exact ⟨x, r, e1, Den.fl h d x f.1 h1, Dens.fl h ds r f.2 h2⟩
end
theorem tup_hid {os os' : List Addr} {H' : Hp} (l : Live os H') (a : Addr) (xs : List V) (q : hide os' H' a = some (.tup xs)) : hide os H' a = some (.tup xs) := hide_tup l (hide_le _ _ q)
variable {e : Expr} {ma mb : ME} {mc : MT} {m : MS} {PX : Prop} {pos p2 p3 : Pos}
/-- owned names read as they are -/
theorem de_bor {n : Nat} {is : List Nat} (hn : X.N.length = n) (his : ∀ i ∈ is, i < n) (h : DE X e ma) : DE X e (eBor n is ma) := by
  obtain ⟨t, p, q⟩ := h
  refine ⟨t, p, fun os σ H δ d Q s m k => ?_⟩
  obtain ⟨d', e1, m⟩ := bind_inv m
  split at m
  · rename_i hf
    cases m
    obtain ⟨os', s', a1, b1⟩ := Sl.frzs hn is his s
    refine q os' σ H _ d Q s' e1 fun v H' g r => k v H' g (Den.fl (tup_hid (s.live.mono g)) d v hf r)
  · cases m
theorem dt_bor {n : Nat} {is : List Nat} (hn : X.N.length = n) (his : ∀ i ∈ is, i < n) (h : DT X e mc) : DT X e (tBor n is mc) := by
  obtain ⟨t, p, q⟩ := h
  refine ⟨t, p, fun os σ H δ d Q s m k => ?_⟩
  obtain ⟨os', s', a1, b1⟩ := Sl.frzs hn is his s
  exact q os' σ H _ d Q s' m k
/-- from here on some owned names are plain -/
theorem dss_frz {n : Nat} {is : List Nat} {sts : List Stmt} (hn : X.N.length = n) (his : ∀ i ∈ is, i < n) (hfn : X.fn "" = true) (h : DSs X PX sts m) : DSs X PX sts (sFrz n is m) := by
  obtain ⟨t, p, q⟩ := h
  refine ⟨t, p, fun os σ H δ r D s me k => ?_⟩
  obtain ⟨os', s', a1, b1⟩ := Sl.frzs hn is his s
  exact q os' σ H _ r D s' me (k.mono (fr_frz hfn a1 b1))
/-- x = a list or dict made anew, x's own -/
theorem ds_own {n i : Nat} {x : Str} (hn : X.N.length = n) (hi : i < n) (he : DF X e ma) (hg : PG X (.Name x p2) (gName i)) (hs : swapsWithSole [.Name x p2] e pos.line X.env = pure false := by rfl) (hw : swappedStores [.Name x p2] e X.env = pure none := by rfl)
    (h1 : (assignEach [.Name x p2] X.env).map (·.2) = [assign (.Name x p2) X.env] := by rfl) : DS X PX (.Assign [.Name x p2] e pos) (sOwn n i ma) := by
  obtain ⟨t, p, q⟩ := he
  refine ⟨_, ps_asg p hg hs hw h1, fun os σ H δ r D s m k => ?_⟩
  obtain ⟨d, e1, m⟩ := bind_inv m
  cases m
  exact q os σ H δ d _ s e1 fun a H' g ha o => k _ H' (a :: os) (fr_make g ha) (s.make hn hi g ha o)
/-- x.append(e) -/
theorem ds_app {n i : Nat} {xo : Expr} {p4 : Pos} (hn : X.N.length = n) (hi : i < n) (hfn : X.fn "" = true) (hv : PE X xo (tVar i)) (he : DE X e ma)
    (hbase : attributeBase xo "append" X.env (eval xo X.env) = eval xo X.env := by rfl)
    (hfew : ((backTo p3 (starEach [e] X.env)).all (fun x => !x.1) && (backToKw p3 (keywordEach [] X.env)).all (fun x => x.1.isSome)
      && decide ([e].length + ([] : List Keyword).length + (if ([] : List Keyword).isEmpty then 0 else 1) < 30)) = true := by rfl)
    (hline : (p2.endLine == p3.line) = true := by rfl) (hs : starEach [e] X.env = (false, eval e X.env) :: starEach [] X.env := by rfl) (hplain : (backTo p3 (starEach [] X.env)).any (·.1) = false := by rfl) :
    DS X PX (.Expr (.Call (.Attribute xo "append" p2) [e] [] p3) p4) (sApp n i ma) := by
  obtain ⟨t, p, q⟩ := he
  refine ⟨_, ps_expr (pe_bm PySem.F.plainAttrs_list PySem.F.slot_list_append PySem.F.type_list_append mt_append hv (pa_cons p pa_nil hs) hbase hfew hline hs hplain), fun os σ H δ r D s m k => ?_⟩
  obtain ⟨y, e1, m⟩ := bind_inv m
  split at m
  · rename_i ds ho
    split at m
    · rename_i hl
      cases m
      obtain ⟨w1, w2, a, w3, w4, w5, xs, w6, w7⟩ := s.own_at hn hi ho
      refine ⟨_, w3, .inl ⟨rfl, xs, .of w6⟩, q os σ H δ y _ s e1 fun v H' g rv => ?_⟩
      refine ⟨a, xs, v, rfl, rfl, g _ _ w6, by rw [← w7.length, sizeLine_eq]; exact hl, ?_⟩
      obtain ⟨s2, f2⟩ := (s.mono g).chg (d' := .lst (ds ++ [y])) (o := .lst (xs ++ [v])) hn hi hfn ho w3 ⟨_, upd_same, (w7.mono g.hd _ _).append (.cons rv .nil)⟩
      exact k σ _ os ((Fr.of g).trans f2) s2
    · cases m
  · cases m
end
end DL

set_option Elab.async false
set_option linter.all false
set_option maxRecDepth 100000
namespace DL
open PySem PySem.Spec PyProof.Rows L2

/-! ### a comprehension's cells -/
def clOf (cells : List (Str × Addr)) : List (Str × NameKind) → List (Str × Addr)
  | [] => []
  | (n, k) :: r => clOf cells r ++ (if k == .free then (match cells.lookup n with | some c => [(n, c)] | none => []) else [])
theorem clOf_mem {cells : List (Str × Addr)} {x : Str} {c : Addr} : ∀ {names : List (Str × NameKind)}, (x, c) ∈ clOf cells names → cells.lookup x = some c
  | [], h => by cases h
  | (n, k) :: r, h => by
    unfold clOf at h
    rcases List.mem_append.mp h with h | h
    · exact clOf_mem h
    · split at h
      · split at h
        · rename_i c' e
          have := List.mem_singleton.mp h
          cases this
          exact e
        · cases h
      · cases h
theorem clOf_has {cells : List (Str × Addr)} {x : Str} {c : Addr} (hc : cells.lookup x = some c) : ∀ {names : List (Str × NameKind)}, (x, NameKind.free) ∈ names → (x, c) ∈ clOf cells names
  | [], h => by cases h
  | (n, k) :: r, h => by
    unfold clOf
    rcases List.mem_cons.mp h with h | h
    · cases h
      refine List.mem_append_right _ ?_
      rw [if_pos (by rfl), hc]
      exact List.mem_singleton.mpr rfl
    · exact List.mem_append_left _ (clOf_has hc h)
theorem lookup_of_mem {x : Str} {c : Addr} : ∀ {l : List (Str × Addr)}, (x, c) ∈ l → ∃ c', l.lookup x = some c'
  | [], h => by cases h
  | (n, d) :: r, h => by
    rw [List.lookup_cons]
    cases hx : x == n with
    | true => exact ⟨d, rfl⟩
    | false =>
      rcases List.mem_cons.mp h with h | h
      · cases h
        rw [beq_self_eq_true] at hx
        cases hx
      · exact lookup_of_mem h
theorem closure_ok {sc : Scope} {env : Env} (h : ∀ y ∈ sc.names, y.2 = .free → ∃ c, env.cells.lookup y.1 = some c) : closureFor sc env = pure (clOf env.cells sc.names) := by
  have go : ∀ (names : List (Str × NameKind)), (∀ y ∈ names, y.2 = .free → ∃ c, env.cells.lookup y.1 = some c) → ∀ (acc : List (Str × Addr)),
      (forIn names acc fun (x : Str × NameKind) (r : List (Str × Addr)) => (if (x.2 == NameKind.free) = true then do let c ← cellOf env x.1; pure (ForInStep.yield ((x.1, c) :: r)) else pure (ForInStep.yield r) : Sem (ForInStep (List (Str × Addr))))) = pure (clOf env.cells names ++ acc) := by
    intro names
    induction names with
    | nil => intro _ acc; rfl
    | cons y r ih =>
      intro h acc
      obtain ⟨n, k⟩ := y
      rw [List.forIn_cons]
      unfold clOf
      by_cases hk : k = .free
      · subst hk
        obtain ⟨c, hc⟩ := h (n, .free) List.mem_cons_self rfl
        have e1 : cellOf env n = pure c := by unfold cellOf; rw [hc]
        simp only [beq_self_eq_true, if_true, e1, pure_bind, hc]
        rw [ih (fun y hy => h y (List.mem_cons_of_mem _ hy))]
        rw [List.append_assoc]
        rfl
      · have hk' : (k == NameKind.free) = false := by simpa using hk
        simp only [hk', Bool.false_eq_true, if_false, pure_bind, List.append_nil]
        exact ih (fun y hy => h y (List.mem_cons_of_mem _ hy)) acc
  have := go sc.names h []
  rw [List.append_nil] at this
  unfold closureFor
  first
    | (rw [show (pure (clOf env.cells sc.names) : Sem _) = (pure (clOf env.cells sc.names) >>= fun cs => pure cs) from rfl, ← this]; rfl)
    | (simp only [this, pure_bind]; done)
    | (refine Eq.trans ?_ this; simp)

/-! ### the block's context -/
abbrev cxB (X : Cx) (sc : Scope) (N : List Str) (C : Addr) (s : Shared) (H : Hp) (fp : List Addr) : Cx where
  prog := X.prog
  w := X.w
  K := X.K
  mg := X.mg
  base := X.base
  A := X.A
  N := N
  s₀ := s
  H₀ := H
  env := compEnvC sc (clOf X.env.cells sc.names) C X.env
  outer := X.stack
  stack := X.stack
  ex := fp
  fn := fun _ => false
  calm := X.calm
  pn := []
  xe := fun _ _ => False
/-- the names of a comprehension (N: its own k first, then the free ones, at the places fv of the def's names NX) -/
structure CompScope (scX sc : Scope) (NX N : List Str) (k : Nat) (fv : List Nat) : Prop where
  kind : sc.kind = .function
  nocell : ∀ y ∈ sc.names, y.2 ≠ .cell
  names : ∀ y ∈ sc.names, y.2 = .local → sc.names.lookup y.1 = some .local
  freeX : ∀ y ∈ sc.names, y.2 = .free → scX.names.lookup y.1 = some .cell
  len : N.length = k + fv.length
  nd : N.Nodup
  fvs : ∀ t, t < fv.length → NX[fv.getD t 0]? = N[k + t]? ∧ (N[k + t]?.bind fun x => sc.names.lookup x) = some .free
def DIfs (Y : Cx) : List Expr → MT → Prop
  | [], m => m = tT
  | [c], m => DT Y c m
  | _, _ => False
/-- what is set lies below k -/
def Below (k : Nat) (g : MG) : Prop := ∀ d δ δ', g d δ = some δ' → δ'.length = δ.length ∧ ∀ i, k ≤ i → δ'[i]? = δ[i]?
theorem below_name {k i : Nat} (h : i < k) : Below k (gN i) := by
  intro d δ δ' e
  cases e
  exact ⟨by simp, fun j hj => by rw [List.getElem?_set_ne (by omega)]⟩
def Belows (k : Nat) (g : MGs) : Prop := ∀ ds δ δ', g ds δ = some δ' → δ'.length = δ.length ∧ ∀ i, k ≤ i → δ'[i]? = δ[i]?
theorem belows_nil {k : Nat} : Belows k gsNil := by
  intro ds δ δ' e
  cases ds with
  | nil => cases e; exact ⟨rfl, fun _ _ => rfl⟩
  | cons _ _ => cases e
theorem belows_cons {k : Nat} {g : MG} {gs : MGs} (h : Below k g) (hs : Belows k gs) : Belows k (gsCons g gs) := by
  intro ds δ δ' e
  cases ds with
  | nil => cases e
  | cons d ds =>
    obtain ⟨δ1, e1, e⟩ := bind_inv e
    obtain ⟨a1, a2⟩ := h d δ δ1 e1
    obtain ⟨b1, b2⟩ := hs ds δ1 δ' e
    exact ⟨b1.trans a1, fun i hi => (b2 i hi).trans (a2 i hi)⟩
theorem below_tup {k : Nat} {gs : MGs} (h : Belows k gs) : Below k (gT gs) := by
  intro d δ δ' e
  cases d with
  | tup ds => exact h ds δ δ' e
  | _ => cases e

section
variable {X : Cx} {scX sc : Scope} {NX N : List Str} {k : Nat} {fv : List Nat}
theorem pick_length {α : Type} (k : Nat) (fv : List Nat) (δ : List (Option α)) : (pick k fv δ).length = k + fv.length := by simp [pick]
theorem pick_some {α : Type} {k : Nat} {fv : List Nat} {δ : List (Option α)} {i : Nat} {d : α} (h : (pick k fv δ)[i]? = some (some d)) : ∃ t j, i = k + t ∧ fv[t]? = some j ∧ δ[j]? = some (some d) := by
  unfold pick at h
  by_cases hi : i < k
  · rw [List.getElem?_append_left (by simpa using hi), List.getElem?_replicate] at h
    split at h <;> cases h
  · rw [List.getElem?_append_right (by simpa using hi), List.length_replicate, List.getElem?_map] at h
    cases q : fv[i - k]? with
    | none => rw [q] at h; cases h
    | some j =>
      rw [q] at h
      refine ⟨i - k, j, by omega, q, ?_⟩
      exact slot_some (Option.some.inj h)
theorem pick_at {α : Type} {k : Nat} {fv : List Nat} {δ : List (Option α)} {t j : Nat} {d : α} (h : fv[t]? = some j) (hd : δ[j]? = some (some d)) : (pick k fv δ)[k + t]? = some (some d) := by
  unfold pick
  rw [List.getElem?_append_right (by simp), List.length_replicate, List.getElem?_map, show k + t - k = t by omega, h]
  simp [slot, hd]
theorem nd_inj {α : Type} : ∀ {l : List α} {i j : Nat}, l.Nodup → (hi : i < l.length) → (hj : j < l.length) → l[i] = l[j] → i = j
  | [], _, _, _, hi, _, _ => absurd hi (by simp)
  | a :: l, 0, 0, _, _, _, _ => rfl
  | a :: l, 0, j + 1, nd, _, hj, e => by
    rw [List.nodup_cons] at nd
    exact absurd (by rw [show a = l[j]'(by simpa using hj) from by simpa using e]; exact List.getElem_mem _) nd.1
  | a :: l, i + 1, 0, nd, hi, _, e => by
    rw [List.nodup_cons] at nd
    exact absurd (by rw [show a = l[i]'(by simpa using hi) from by simpa using e.symm]; exact List.getElem_mem _) nd.1
  | a :: l, i + 1, j + 1, nd, hi, hj, e => by
    rw [List.nodup_cons] at nd
    exact congrArg (· + 1) (nd_inj (l := l) nd.2 (by simpa using hi) (by simpa using hj) (by simpa using e))
theorem fv_lt (S : CompScope scX sc NX N k fv) {t j : Nat} (h : fv[t]? = some j) : j < NX.length := by
  have ht : t < fv.length := (List.getElem?_eq_some_iff.mp h).1
  obtain ⟨q1, q2⟩ := S.fvs t ht
  have hj : fv.getD t 0 = j := by rw [List.getD_eq_getElem?_getD, h]; rfl
  rw [hj] at q1
  cases e : N[k + t]? with
  | none => rw [e] at q2; cases q2
  | some x => rw [e] at q1; exact (List.getElem?_eq_some_iff.mp q1).1
/-- the block's names, from the def's: those owned behind the others -/
structure Blk (X : Cx) (k : Nat) (fv : List Nat) (B : Ev → Ev) : Prop where
  len : ∀ δ, k + fv.length ≤ (B δ).length
  pl : ∀ δ i d, i < k + fv.length → (B δ)[i]? = some (some d) → ∃ t j, i = k + t ∧ fv[t]? = some j ∧ δ[j]? = some (some d)
  own : ∀ δ i, i < k → (B δ)[i]? = some none
  ow : ∀ δ i d, X.N.length ≤ δ.length → i < k + fv.length → (B δ)[i]? = some none → (B δ)[k + fv.length + i]? = some (some d) → ∃ t j, i = k + t ∧ fv[t]? = some j ∧ (j < X.N.length → δ[j]? = some none) ∧ δ[X.N.length + j]? = some (some d)
theorem blk_pick : Blk X k fv (pick k fv) := by
  refine ⟨fun δ => Nat.le_of_eq (pick_length k fv δ).symm, fun δ i d _ h => pick_some h, fun δ i h => ?_, fun δ i d _ _ _ h => ?_⟩
  · unfold pick
    rw [List.getElem?_append_left (by simpa using h), List.getElem?_replicate, if_pos h]
  · rw [List.getElem?_eq_none (by rw [pick_length]; omega)] at h
    cases h
theorem blk_sl {B : Ev → Ev} (hB : Blk X k fv B) (S : CompScope scX sc NX N k fv) (hN : X.N = NX) {os : List Addr} {H : Hp} {δ : Ev} {σ : L2.St} {C : Addr} {s : Shared} {fp : List Addr} (sl : Sl X os H δ σ) : Sl (cxB X sc N C s H fp) os H (B δ) (pick k fv σ) := by
  have hl : (cxB X sc N C s H fp).N.length = k + fv.length := S.len
  refine ⟨by rw [pick_length, hl], by rw [hl]; exact hB.len δ, fun i d hi h => ?_, fun i d hi h1 h2 => ?_, fun i i' d e a hi hi' h1 h1' h2 h2' h3 h3' => ?_, sl.live, Same.refl _⟩
  · rw [hl] at hi
    obtain ⟨t, j, rfl, e1, e2⟩ := hB.pl δ i d hi h
    obtain ⟨v, e3, r⟩ := sl.pl j d (by rw [hN]; exact fv_lt S e1) e2
    exact ⟨v, pick_at e1 e3, r⟩
  · rw [hl] at hi h2
    obtain ⟨t, j, rfl, e1, e2, e3⟩ := hB.ow δ i d sl.len hi h1 h2
    have hj : j < X.N.length := by rw [hN]; exact fv_lt S e1
    obtain ⟨a, q1, q2, _, q3⟩ := sl.ow j d hj (e2 hj) e3
    exact ⟨a, pick_at e1 q1, q2, fun z => absurd (show false = true from z) Bool.false_ne_true, q3⟩
  · rw [hl] at hi hi' h2 h2'
    obtain ⟨t, j, rfl, e1, e2, e3⟩ := hB.ow δ i d sl.len hi h1 h2
    obtain ⟨t', j', rfl, e1', e2', e3'⟩ := hB.ow δ i' e sl.len hi' h1' h2'
    have hj : j < X.N.length := by rw [hN]; exact fv_lt S e1
    have hj' : j' < X.N.length := by rw [hN]; exact fv_lt S e1'
    obtain ⟨a1, q1, _⟩ := sl.ow j d hj (e2 hj) e3
    obtain ⟨a2, q1', _⟩ := sl.ow j' e hj' (e2' hj') e3'
    have p1 := pick_at (k := k) e1 q1
    have p2 := pick_at (k := k) e1' q1'
    rw [h3] at p1
    rw [h3'] at p2
    cases p1
    cases p2
    have ej := sl.inj j j' d e a hj hj' (e2 hj) (e2' hj') e3 e3' q1 q1'
    subst ej
    obtain ⟨f1, _⟩ := S.fvs t (List.getElem?_eq_some_iff.mp e1).1
    obtain ⟨f2, _⟩ := S.fvs t' (List.getElem?_eq_some_iff.mp e1').1
    have g1 : fv.getD t 0 = j := by rw [List.getD_eq_getElem?_getD, e1]; rfl
    have g2 : fv.getD t' 0 = j := by rw [List.getD_eq_getElem?_getD, e1']; rfl
    rw [g1] at f1
    rw [g2] at f2
    have nd := S.nd
    have l1 : k + t < N.length := by rw [S.len]; omega
    have l2 : k + t' < N.length := by rw [S.len]; omega
    rw [f1, List.getElem?_eq_getElem l1, List.getElem?_eq_getElem l2] at f2
    exact nd_inj nd l1 l2 (Option.some.inj f2)
/-- the own names forgotten again -/
theorem Sl.back {B : Ev → Ev} {Y : Cx} (hB : Blk X k fv B) (hY : Y.N.length = k + fv.length) {os : List Addr} {H : Hp} {δ δ1 : Ev} {σ : L2.St} (s : Sl Y os H δ1 σ) (hx : X.N.length ≤ δ.length) (hl : δ1.length = (B δ).length) (hb : ∀ i, k ≤ i → δ1[i]? = (B δ)[i]?) : Sl Y os H (B δ) σ := by
  have go : ∀ i d, i < Y.N.length → (B δ)[i]? = some none → (B δ)[Y.N.length + i]? = some (some d) → δ1[i]? = some none ∧ δ1[Y.N.length + i]? = some (some d) := fun i d hi h1 h2 => by
    rw [hY] at hi
    obtain ⟨t, j, rfl, _⟩ := hB.ow δ i d hx hi h1 (by rw [← hY]; exact h2)
    exact ⟨(hb _ (Nat.le_add_right _ _)).trans h1, (hb _ (by rw [hY]; omega)).trans h2⟩
  refine ⟨s.n, by rw [hY]; exact hB.len δ, fun i d hi h => ?_, fun i d hi h1 h2 => ?_, fun i j d e a hi hj h1 h2 h3 h4 h5 h6 => ?_, s.live, s.keep⟩
  · obtain ⟨t, j, rfl, _, _⟩ := hB.pl δ i d (by rw [← hY]; exact hi) h
    exact s.pl _ d hi ((hb _ (Nat.le_add_right _ _)).trans h)
  · obtain ⟨q1, q2⟩ := go i d hi h1 h2
    exact s.ow i d hi q1 q2
  · obtain ⟨q1, q2⟩ := go i d hi h1 h3
    obtain ⟨q3, q4⟩ := go j e hj h2 h4
    exact s.inj i j d e a hi hj q1 q3 q2 q4 h5 h6

theorem relabel_kind {env : Env} : ∀ {names : List (Str × NameKind)} {x : Str}, (∀ y ∈ names, y.2 ≠ .cell) →
    ((names.map fun (n, k) => if (k == NameKind.free && env.scope.kind == .function && env.kindOf n == some .cell) then (n, NameKind.cell) else (n, k)).lookup x = some .cell ∨
     (names.map fun (n, k) => if (k == NameKind.free && env.scope.kind == .function && env.kindOf n == some .cell) then (n, NameKind.cell) else (n, k)).lookup x = some .free) → names.lookup x = some .free
  | [], _, _, h => by rcases h with h | h <;> cases h
  | (n, k) :: r, x, hc, h => by
    have ih := @relabel_kind env r x fun y hy => hc y (List.mem_cons_of_mem _ hy)
    rw [List.map_cons] at h
    have e1 : ∀ q : Str × NameKind, q = (if (k == NameKind.free && env.scope.kind == .function && env.kindOf n == some .cell) then (n, NameKind.cell) else (n, k)) → q.1 = n := fun q hq => by rw [hq]; split <;> rfl
    rw [List.lookup_cons]
    have hk := hc (n, k) List.mem_cons_self
    cases hx : x == n with
    | true =>
      by_cases hf : k = .free
      · subst hf; rfl
      · have hf' : (k == NameKind.free) = false := by simpa using hf
        simp only [hf', Bool.false_and, Bool.false_eq_true, if_false, List.lookup_cons, hx] at h
        rcases h with h | h
        · cases h; exact absurd rfl hk
        · cases h; exact absurd rfl hf
    | false =>
      refine ih ?_
      by_cases hq : (k == NameKind.free && env.scope.kind == .function && env.kindOf n == some .cell) = true
      · simpa only [hq, if_true, List.lookup_cons, hx] using h
      · simpa only [hq, Bool.false_eq_true, if_false, List.lookup_cons, hx] using h
theorem free_mem {x : Str} {k : NameKind} : ∀ {names : List (Str × NameKind)}, names.lookup x = some k → (x, k) ∈ names
  | [], h => by cases h
  | (n, j) :: r, h => by
    rw [List.lookup_cons] at h
    cases hx : x == n with
    | true =>
      rw [hx] at h
      cases h
      have := eq_of_beq hx
      subst this
      exact List.mem_cons_self
    | false =>
      rw [hx] at h
      exact List.mem_cons_of_mem _ (free_mem h)

/-- the block's invariant at its entry -/
theorem inv_block {pins : List (Addr × Obj)} {σ : L2.St} {H : Hp} {s : Shared} {fp : List Addr} {h1 : Heap} {tk : Nat} {m : Str → Option Value} {C : Addr} (I : Inv X pins σ H s) (S : CompScope scX sc NX N k fv) (hX : X.env.scope = scX) (hN : X.N = NX)
    (hf : ∀ b ∈ fp, FpOk X pins H b) (hfl : ∀ b ∈ fp, b < s.heap.objs.size) (hC : s.heap.objs.size ≤ C) (hns : h1.Ns C m) (kept : ∀ b o, s.heap.get? b = some o → h1.get? b = some o) :
    Inv (cxB X sc N C s H fp) [] (pick k fv σ) H { s with heap := h1, toks := tk } := by
  have hcl : ∀ x c, (clOf X.env.cells sc.names).lookup x = some c → X.env.cells.lookup x = some c := fun x c h => clOf_mem (PySem.mem_of_lookup h)
  have hfree : ∀ x, sc.names.lookup x = some .free → X.env.kindOf x = some .cell := fun x h => by
    have := S.freeX (x, .free) (free_mem h) rfl
    show X.env.scope.names.lookup x = _
    rw [hX]
    exact this
  have hkind : X.env.scope.kind = .function := I.ok.kind
  have hrel : ∀ x, sc.names.lookup x = some .free → (relabel sc X.env).names.lookup x = some .cell ∨ (relabel sc X.env).names.lookup x = some .free := fun x h => by
    have go : ∀ (names : List (Str × NameKind)), names.lookup x = some .free → (names.map fun (n, k) => if (k == NameKind.free && X.env.scope.kind == .function && X.env.kindOf n == some .cell) then (n, NameKind.cell) else (n, k)).lookup x = some .cell ∨
        (names.map fun (n, k) => if (k == NameKind.free && X.env.scope.kind == .function && X.env.kindOf n == some .cell) then (n, NameKind.cell) else (n, k)).lookup x = some .free := by
      intro names
      induction names with
      | nil => intro h; cases h
      | cons y r ih =>
        obtain ⟨n, j⟩ := y
        intro h
        rw [List.lookup_cons] at h
        rw [List.map_cons]
        by_cases hq : (j == NameKind.free && X.env.scope.kind == .function && X.env.kindOf n == some .cell) = true
        · simp only [hq, if_true, List.lookup_cons]
          cases hx : x == n with
          | true => exact .inl rfl
          | false => rw [hx] at h; exact ih h
        · simp only [hq, Bool.false_eq_true, if_false, List.lookup_cons]
          cases hx : x == n with
          | true => rw [hx] at h; cases h; exact .inr rfl
          | false => rw [hx] at h; exact ih h
    exact go sc.names h
  have stk : ∀ b ∈ frs X.stack, b ∈ X.env.locals :: X.fs := I.stkSub
  have neC : ∀ b, b < s.heap.objs.size → b ≠ C := fun b hb => Nat.ne_of_lt (Nat.lt_of_lt_of_le hb hC)
  have hall : ∀ x, (X.env.kindOf x = some .cell ∨ X.env.kindOf x = some .free) → ∃ c, X.env.cells.lookup x = some c := I.ok.has
  have okY : (cxB X sc N C s H fp).Ok := by
    refine ⟨I.ok.mod, S.kind, I.ok.glob, I.ok.blt, hC, fun x y c h1 h2 => I.ok.inj x y c (hcl x c h1) (hcl y c h2), fun x hx => ?_, fun x c h _ => ?_, I.ok.hd, I.ok.frames, .inl rfl, fun b hb => ?_, I.bs, Nat.le_trans I.ok.bsz I.sz, fun b o e hb => ?_, fun b hb hb' => ?_, I.stack, I.stkFree⟩
    · have hx' : sc.names.lookup x = some .free := relabel_kind (env := X.env) S.nocell hx
      obtain ⟨c, hc⟩ := hall x (.inl (hfree x hx'))
      exact lookup_of_mem (clOf_has hc (free_mem hx'))
    · exact absurd (show false = true from h) Bool.false_ne_true
    · exact ⟨neC b (hfl b hb), fun x c e => (hf b hb).2.2.2.2.1 x c (hcl x c e)⟩
    · have hf' := (hf b hb).2.2.2.1
      rcases hf' with z | z
      · exact I.ok.noex b o e z
      · exact absurd (Nat.lt_of_lt_of_le (Heap.lt_size e) (Nat.le_trans I.ok.bsz z)) (Nat.lt_irrefl _)
    · rcases List.mem_cons.mp (stk b hb') with z | z
      · exact (hf b hb).2.1 z
      · exact (hf b hb).2.2.1 z
  refine ⟨okY, rfl, I.bare, Un.kept kept, ⟨m, hns, fun i x v e1 e2 e3 => ?_⟩, fun x c e => ?_, I.hok.fresh hC, fun x c e => I.freeC x c (hcl x c e), fun p hp => absurd (show p ∈ ([] : List (Addr × Obj)) from hp) (by simp), I.hok.kept kept, ?_⟩
  · obtain ⟨t, j, rfl, f1, f2⟩ := pick_some e2
    have ht : t < fv.length := (List.getElem?_eq_some_iff.mp f1).1
    obtain ⟨q1, q2⟩ := S.fvs t ht
    have hj : fv.getD t 0 = j := by rw [List.getD_eq_getElem?_getD, f1]; rfl
    rw [hj] at q1
    have e1' : N[k + t]? = some x := e1
    rw [e1'] at q1 q2
    have q2' : sc.names.lookup x = some .free := q2
    obtain ⟨m0, _, hl⟩ := I.loc
    obtain ⟨u, r, l⟩ := hl j x v (by rw [hN]; exact q1) f2 (.inr (.inl (hfree x q2')))
    refine ⟨u, r, .inr ⟨hrel x q2', ?_⟩⟩
    rcases l with ⟨kx, _⟩ | ⟨_, c, ec, ic⟩
    · rw [hfree x q2'] at kx; cases kx
    · obtain ⟨c', hc'⟩ := lookup_of_mem (clOf_has ec (free_mem q2'))
      have : c' = c := by
        have := hcl x c' hc'
        rw [ec] at this
        exact (Option.some.inj this).symm
      subst this
      obtain ⟨o, ho, hd⟩ := ic
      exact ⟨c', hc', o, kept _ _ ho, hd⟩
  · obtain ⟨v, o, ho, hd⟩ := I.cell x c (hcl x c e)
    exact ⟨v, o, kept _ _ ho, hd⟩
  · rw [pick_length]
    exact S.len.symm
end
end DL

set_option Elab.async false
set_option linter.all false
set_option maxRecDepth 100000
namespace DL
open PySem PySem.Spec PyProof.Rows L2
section
variable {X : Cx} {scX sc : Scope} {NX N : List Str} {k : Nat} {fv : List Nat}

/-- none or one test, then k of what it says -/
def Tested (M : Model) (A : Around) (env : Env) (Er : Value → Shared → Prop) (k : Bool → Shared → Prop) : List Expr → Shared → Prop
  | [], s => k true s
  | [c], s => wpAny M A (isTrue c env (eval c env)) k Er s
  | _, _ => False
theorem tested_by {Y : Cx} {os : List Addr} {pins : List (Addr × Obj)} {σ : L2.St} {H : Hp} {s : Shared} {δ : Ev} {b : Bool} {mc : MT} {Er : Value → Shared → Prop} {k : Bool → Shared → Prop} {ifs : List Expr} (h : DIfs Y ifs mc) (I : Inv Y pins σ H s) (sl : Sl Y os H δ σ) (e : mc δ = some b)
    (hk : ∀ s' H', Inv Y pins σ H' s' → Same H H' → k b s') (hx : ∀ v s', Y.xe v s' → Er v s') : Tested (model Y.prog Y.w) Y.A Y.env Er k ifs s := by
  match ifs, h with
  | [], h =>
    have h' : mc = tT := h
    subst h'
    cases e
    exact hk s H I (Same.refl _)
  | [c], h =>
    obtain ⟨t, p, q⟩ := (show DT Y c mc from h)
    refine wpAny_mono (p pins s σ H (fun z H' => z = b ∧ Same H H') I (q os σ H δ b _ sl e fun H' g => ⟨rfl, g⟩)) (fun z s' r => ?_) hx
    obtain ⟨H', I', rfl, g'⟩ := r
    exact hk s' H' I' g'
/-- a list comprehension's loop: the library's, with none or one test -/
theorem loop_by {prog : Program} {w : World} {A : Around} {R : Result → Shared → Prop} {s : Shared} {elt target iter : Expr} {ifs : List Expr} {scope : Scope} {pos : Pos} {it acc : Value} {env : Env} (hi : ifs.length ≤ 1) (J : Nat → Shared → Prop)
    (round : ∀ n s, J n s → wpAny (model prog w) A (pyNext it) (fun r s1 => r.elim (R (.ok .next) s1) fun v =>
      wpAny (model prog w) A (letOwnedTupleGo target it v) (fun _ s2 => wpAny (model prog w) A (assign target env v) (fun _ s3 =>
        Tested (model prog w) A env (notedBy (model prog w) A env fun x z => R (.error x) z) (fun ok s4 => if ok = true then
          wpAny (model prog w) A (eval elt env) (fun x s5 => wpAny (model prog w) A (call (.builtin "list.append") [acc, x]) (fun _ s6 => ∃ m, m < n ∧ J m s6) (notedBy (model prog w) A env fun x z => R (.error x) z) s5) (notedBy (model prog w) A env fun x z => R (.error x) z) s4
          else ∃ m, m < n ∧ J m s4) ifs s3)
        (notedBy (model prog w) A env fun x z => R (.error x) z) s2) (notedBy (model prog w) A env fun x z => R (.error x) z) s1) (notedBy (model prog w) A env fun x z => R (.error x) z) s)
    (n : Nat) (h : J n s) : codeAny (model prog w) A (.compLoop (.ListComp elt [⟨target, iter, ifs, 0⟩] scope pos) 0 it acc env) R s := by
  match ifs, hi, round with
  | [], _, round =>
    refine PySem.W.kcp_loop J (fun n s hJ => wpAny_mono (round n s hJ) (fun r s1 q => ?_) fun _ _ q => q) n h
    cases r with
    | none => exact q
    | some v => exact wpAny_mono q (fun _ s2 q => wpAny_mono q (fun _ s3 q => by simpa only [Tested, if_true] using q) fun _ _ q => q) fun _ _ q => q
  | [c], _, round =>
    refine PySem.W.kct_loop J (fun n s hJ => wpAny_mono (round n s hJ) (fun r s1 q => ?_) fun _ _ q => q) n h
    cases r with
    | none => exact q
    | some v => exact q
  | _ :: _ :: _, hi, _ => exact absurd hi (by simp)

/-- from the block's end back to the def -/
theorem block_end {pins : List (Addr × Obj)} {σ σ' : L2.St} {H H' : Hp} {s s' : Shared} {fp : List Addr} {C D : Addr} {its : List Value} {cnt : Nat} {vs : List V} {h' : Heap} (I : Inv X pins σ H s) (hf : ∀ b ∈ fp, FpOk X pins H b) (hD : s.heap.objs.size ≤ D) (hDC : D ≠ C) (hC : s.heap.objs.size ≤ C)
    (J : Inv (cxB X sc N C s H fp) [(D, { cls := .type "list", data := .seq its.toArray cnt })] σ' H' s') (rv : Vals vs its) (hz : vs.length ≤ sizeLine) (sb : Heap.SameBut C s'.heap h') :
    Inv X pins σ (upd H' D (.lst vs)) { s' with heap := h' } := by
  obtain ⟨eD, nD, _, _, _⟩ := J.pin (D, { cls := .type "list", data := .seq its.toArray cnt }) (by simp)
  have nC : H' C = none := J.free
  have kp : ∀ b o, b ≠ C → s'.heap.get? b = some o → h'.get? b = some o := fun b o hb e => (sb.2 b hb).trans e
  have ltC : ∀ b, b < s.heap.objs.size → b ≠ C := fun b hb => Nat.ne_of_lt (Nat.lt_of_lt_of_le hb hC)
  have ltD : ∀ b, b < s.heap.objs.size → b ≠ D := fun b hb => Nat.ne_of_lt (Nat.lt_of_lt_of_le hb hD)
  have un := J.base
  have u2 : Un (frs X.stack) fp H (upd H' D (.lst vs)) s.heap h' := by
    refine ⟨fun b o e n h1 h2 => kp b o (ltC b (Heap.lt_size e)) (un.keep b o e n h1 h2), fun b o e n h1 h2 => ?_, fun b o e n h2 => ?_, fun b o e h2 => ?_, fun b xs e => ?_, fun b o u e => ?_, fun b ps e => ?_⟩
    · obtain ⟨sl, q⟩ := un.slot b o e n h1 h2
      exact ⟨sl, kp b _ (ltC b (Heap.lt_size e)) q⟩
    · rw [upd_ne (ltD b (Heap.lt_size e))]
      exact un.free b o e n h2
    · obtain ⟨o', q⟩ := un.there b o e h2
      exact ⟨o', kp b o' (ltC b (Heap.lt_size e)) q⟩
    · have q := un.tups b xs e
      rw [upd_ne (ne_of_none q nD)]
      exact q
    · have q := un.frzs b o u e
      rw [upd_ne (ne_of_none q nD)]
      exact q
    · obtain ⟨more, q⟩ := un.tbls b ps e
      exact ⟨more, by rw [upd_ne (ne_of_none q nD)]; exact q⟩
  have hok : HOk X.prog X.w (upd H' D (.lst vs)) h' := by
    intro b u e
    by_cases hb : b = D
    · subst hb
      rw [upd_same] at e
      cases e
      exact ⟨hz, its, cnt, rv, kp _ _ hDC eD⟩
    · rw [upd_ne hb] at e
      refine (J.hok b u e).stay (fun c v hc q => kp c v ?_ q) (fun c q => by rw [upd_ne (ne_of_none q nD)]; exact q) fun c xs q => by rw [upd_ne (ne_of_none q nD)]; exact q
      rcases hc with z | z
      · rw [z]; exact ne_of_none e nC
      · exact ne_of_none z nC
  exact I.call' (s' := { s' with heap := h' }) (ch := fp) J.os u2 hok J.bare fun b hb => ⟨(hf b hb).2.2.2.1, (hf b hb).2.1, (hf b hb).2.2.2.2.1, (hf b hb).2.2.2.2.2⟩

theorem df_compB {elt tg iter : Expr} {ifs : List Expr} {pos : Pos} {mi : MI} {g : MG} {mc : MT} {me : ME} {B : Ev → Ev} (hB : Blk X k fv B) (hc : X.calm = true) (S : CompScope scX sc NX N k fv) (hX : X.env.scope = scX) (hN : X.N = NX) (hi : DI X tg iter mi) (hbl : Below k g) (hil : ifs.length ≤ 1)
    (hb : ∀ C s H fp, DG (cxB X sc N C s H fp) tg g ∧ DIfs (cxB X sc N C s H fp) ifs mc ∧ DE (cxB X sc N C s H fp) elt me)
    (hs : ∀ x, foldedSetIterable iter X.env x = pure x := by intro _; rfl) :
    DF X (.ListComp elt [⟨tg, iter, ifs, 0⟩] sc pos) (eCompB B mi g mc me) := by
  obtain ⟨wi, pi, qi⟩ := hi
  refine ⟨fun σ H Q => ∃ os δ d, Sl X os H δ σ ∧ eCompB B mi g mc me δ = some d ∧ (∀ p H', Same H H' → H p = none → Own X.K (hide (p :: os) H') H' p d → Q (.ref p) H'), ?_, fun os σ H δ d Q s m k => ⟨os, δ, d, s, m, k⟩⟩
  intro pins s σ H Q I h
  obtain ⟨os, δ, d, sl, m, kq⟩ := h
  obtain ⟨xs, e1, m⟩ := bind_inv m
  have m' : (if xs.length ≤ 16777216 then (compM (fun x => (g x (B δ)).bind fun δ1 => (mc δ1).bind fun b => if b = true then (me δ1).bind fun d => some (some d) else some none) xs).bind fun r => some (D.lst r) else none) = some d := m
  split at m'
  case isFalse => cases m'
  rename_i hlen
  obtain ⟨r, e2, m'⟩ := bind_inv m'
  cases m'
  have hsl : sizeLine = 16777216 := sizeLine_eq
  have hcells : ∀ y ∈ sc.names, y.2 = .free → ∃ c, X.env.cells.lookup y.1 = some c := fun y hy hf => I.ok.has y.1 (.inl (by show X.env.scope.names.lookup y.1 = _; rw [hX]; exact S.freeX y hy hf))
  rw [eval_ListComp]
  refine wpAny_comprehension_free (use := none) rfl hs (closure_ok hcells) S.kind S.names (thn (pi pins s σ H (fun J H' => Same H H' ∧ Walk X.K J (hide os H') xs) I (qi os σ H δ xs _ sl e1 fun J H' g w => ⟨g, w⟩)) fun v s1 h1 => thn h1 fun itv s2 h2 => ?_)
  obtain ⟨it, fp, tn, J, H2, rfl, I2, T, st2, f2, g2, wk⟩ := h2
  have hfl : ∀ b ∈ fp, b < s2.heap.objs.size := fun b hb => let ⟨o, e, _⟩ := T.obj _ _ st2 b hb; Heap.lt_size e
  refine wpAny_newObj_type (wpAny_newFunctionEnv S.nocell (by intro y hy; simp at hy) (fun h₁ hns₁ hsb₁ => ?_) S.kind)
  dsimp only at hns₁ hsb₁ ⊢
  generalize hP2 : s2.heap.push { cls := .type "list", dict := none, data := .seq ([] : List Value).toArray } = P2 at hns₁ hsb₁ ⊢
  generalize hDd : s2.heap.objs.size = Dd
  generalize hCc : P2.objs.size = Cc at hns₁ hsb₁ ⊢
  have hC1 : Cc = Dd + 1 := by rw [← hCc, ← hP2, Heap.size_push, hDd]
  have hDC : Dd ≠ Cc := fun e => by rw [hC1] at e; exact absurd e (Nat.ne_of_lt (Nat.lt_succ_self _))
  have ltC : ∀ b : Addr, b < s2.heap.objs.size → b ≠ Cc := fun b hb e => by rw [e, hC1, ← hDd] at hb; exact absurd (Nat.lt_of_succ_lt hb) (Nat.lt_irrefl _)
  have ltD : ∀ b : Addr, b < s2.heap.objs.size → b ≠ Dd := fun b hb e => by rw [e, ← hDd] at hb; exact absurd hb (Nat.lt_irrefl _)
  have leC : s2.heap.objs.size ≤ Cc := by rw [hC1, hDd]; exact Nat.le_succ _
  have old : ∀ b o, s2.heap.get? b = some o → h₁.get? b = some o := fun b o e =>
    hsb₁.extBut b o (ltC b (Heap.lt_size e)) (Heap.get?_push_of_some _ (hP2 ▸ Heap.get?_push_of_some _ e))
  have hacc : h₁.get? Dd = some { cls := .type "list", data := .seq ([] : List Value).toArray 0 } :=
    hsb₁.extBut _ _ hDC (Heap.get?_push_of_some _ (by rw [← hP2, ← hDd]; exact Heap.get?_push_size _ rfl))
  have fpD : ∀ b ∈ fp, b ≠ Dd := fun b hb => ltD b (hfl b hb)
  obtain ⟨⟨tG, pG, qG⟩, hI, ⟨tE, pE, qE⟩⟩ := hb Cc s2 H2 fp
  -- the block's turns
  have loop : ∀ s₃ : Shared, s₃ = { s2 with heap := h₁, toks := s2.toks + ([] : List (Str × Value)).length } →
      codeAny (model X.prog X.w) X.A (.compLoop (.ListComp elt [⟨tg, iter, ifs, 0⟩] sc pos) 0 (.ref it) (.ref Dd) (compEnvC sc (clOf X.env.cells sc.names) Cc X.env))
        (compPost (model X.prog X.w) X.A X.xe none (EP X pins σ Q) (.ref Dd) Cc) s₃ := by
    rintro s₃ rfl
    have I0 : Inv (cxB X sc N Cc s2 H2 fp) [] (pick k fv σ) H2 { s2 with heap := h₁, toks := s2.toks + ([] : List (Str × Value)).length } :=
      inv_block I2 S hX hN f2 hfl leC hns₁ old
    have nfs : Dd ∉ (cxB X sc N Cc s2 H2 fp).fs := fun z => by
      rcases List.mem_cons.mp (I2.stkSub Dd z) with e | e
      · exact ltD _ I2.lt e.symm
      · exact I2.nofs (Nat.le_of_eq hDd) e
    have cne : ∀ x c, (cxB X sc N Cc s2 H2 fp).env.cells.lookup x = some c → c ≠ Dd := fun x c e z => by
      obtain ⟨v, o, ho, _⟩ := I2.cell x c (clOf_mem (PySem.mem_of_lookup e))
      exact ltD _ (Heap.lt_size ho) z
    have I0' : Inv (cxB X sc N Cc s2 H2 fp) [(Dd, { cls := .type "list", data := .seq ([] : List Value).toArray 0 })] (pick k fv σ) H2 { s2 with heap := h₁, toks := s2.toks + ([] : List (Str × Value)).length } := by
      refine I0.pins_of fun p hp => ?_
      have hp' : p = (Dd, { cls := .type "list", data := .seq ([] : List Value).toArray 0 }) := by simpa using hp
      subst hp'
      exact ⟨hacc, I2.hok.fresh (Nat.le_of_eq hDd), hDC, nfs, fun v z => nomatch z⟩
    have statF : ∀ {H' : Hp} {o : Obj}, (∀ b ∈ fp, H' b = none) → ∀ b ∈ fp, FpOk (cxB X sc N Cc s2 H2 fp) [(Dd, o)] H' b := fun {H' o} hn b hb => by
      refine ⟨hn b hb, ?_, ?_, .inl hb, fun x c e => (f2 b hb).2.2.2.2.1 x c (clOf_mem (PySem.mem_of_lookup e)), fun p hp => ?_⟩
      · exact ltC b (hfl b hb)
      · intro z
        rcases List.mem_cons.mp (I2.stkSub b z) with e | e
        · exact (f2 b hb).2.1 e
        · exact (f2 b hb).2.2.1 e
      · have hp' : p = (Dd, o) := by simpa using hp
        subst hp'
        exact (fpD b hb).symm
    have st1 : tn 0 h₁ := T.keep _ _ _ st2 fun b hb o e => old b o e
    refine loop_by hil (fun n s' => ∃ (i : Nat) (σ' : L2.St) (H' : Hp) (its : List Value) (cnt : Nat) (vs : List V) (ys rest : List D),
      Inv (cxB X sc N Cc s2 H2 fp) [(Dd, { cls := .type "list", data := .seq its.toArray cnt })] σ' H' s' ∧ Vals vs its ∧ tn i s'.heap ∧ (∀ b ∈ fp, H' b = none) ∧ Same H2 H' ∧ Sl (cxB X sc N Cc s2 H2 fp) os H' (B δ) σ' ∧ Dens X.K (hide os H') ys vs ∧
      compM (fun x => (g x (B δ)).bind fun δ1 => (mc δ1).bind fun b => if b = true then (me δ1).bind fun d => some (some d) else some none) (xs.drop i) = some rest ∧ ys ++ rest = r ∧ i ≤ xs.length ∧ ys.length ≤ i ∧ n = xs.length - i) ?_ xs.length
      ⟨0, _, H2, [], 0, [], [], r, I0', .nil, st1, fun b hb => (f2 b hb).1, Same.refl _, blk_sl hB S hN (sl.mono g2), .nil, by simpa using e2, rfl, Nat.zero_le _, Nat.le_refl _, by simp⟩
    rintro n s3 ⟨i, σ3, H3, its, cnt, vs, ys, rest, I3, rv, st3, fr3, g3, sl3, dv, cm, hr, hi, hyl, rfl⟩
    by_cases hlt : i < xs.length
    · have hx : xs[i]? = some xs[i] := List.getElem?_eq_getElem hlt
      obtain ⟨go, yl⟩ := (wk i os H3 sl3.live g3.hd).1 _ hx
      rw [List.drop_eq_getElem_cons hlt, compM] at cm
      obtain ⟨o, e3, cm⟩ := bind_inv cm
      obtain ⟨rest', e4, cm⟩ := bind_inv cm
      obtain ⟨δ1, e5, e3⟩ := bind_inv e3
      obtain ⟨b, e6, e3⟩ := bind_inv e3
      refine thn (T.item (cxB X sc N Cc s2 H2 fp) rfl rfl rfl hc i _ s3 σ3 H3 _ I3 (statF fr3) st3 go) fun rr s4 ⟨u, hrr, h4⟩ => ?_
      subst hrr
      refine thn h4 fun _ s5 ⟨x, H5, I5, r5, y5, st5, fr5⟩ => ?_
      obtain ⟨g5, dx⟩ := yl x H5 y5
      have I5' := I5.pinned (statF fr5) (T.obj _ _ st5)
      refine wpAny_mono (pG _ s5 σ3 H5 x u (fun σ6 H6 => Same H5 H6 ∧ Sl (cxB X sc N Cc s2 H2 fp) os H6 δ1 σ6) I5' r5 (qG os x σ3 H5 _ (B δ) δ1 _ (sl3.mono g5) dx e5 fun σ6 H6 g6 s6 => ⟨g6, s6⟩)) (fun _ s6 r6 => ?_) fun _ _ z => z.elim
      obtain ⟨σ6, H6, I6, g6, sl6⟩ := r6
      refine tested_by hI I6 sl6 e6 (fun s7 H7 I7 g7 => ?_) fun _ _ z => z.elim
      obtain ⟨bl1, bl2⟩ := hbl _ _ _ e5
      have g37 : Same H3 H7 := g5.trans (g6.trans g7)
      have sl7 : Sl (cxB X sc N Cc s2 H2 fp) os H7 (B δ) σ6 := (sl6.mono g7).back hB S.len sl.len bl1 bl2
      cases b with
      | false =>
        rw [if_neg Bool.false_ne_true] at e3
        cases e3
        cases cm
        rw [if_neg Bool.false_ne_true]
        refine ⟨xs.length - (i + 1), by omega, i + 1, σ6, H7, its, cnt, vs, ys, rest', ?_, rv, ?_, ?_, g3.trans g37, sl7, dv.mono (g37).hd _ _, e4, hr, hlt, by omega, rfl⟩
        · exact I7.unpinned
        · exact T.keep _ _ _ st5 fun b hb o e => (I7.pin (b, o) (List.mem_append_right _ (List.mem_append_right _ (mem_pinsAt hb e)))).1
        · intro b hb
          obtain ⟨o, e, _⟩ := T.obj _ _ st5 b hb
          exact (I7.pin (b, o) (List.mem_append_right _ (List.mem_append_right _ (mem_pinsAt hb e)))).2.1
      | true =>
        rw [if_pos rfl] at e3
        obtain ⟨dd, e7, e3⟩ := bind_inv e3
        cases e3
        cases cm
        rw [if_pos rfl]
        refine wpAny_mono (pE _ s7 σ6 H7 (fun v H8 => Same H7 H8 ∧ Den X.K (hide os H8) dd v) I7 (qE os σ6 H7 δ1 dd _ (sl6.mono g7) e7 fun v H8 g8 r8 => ⟨g8, r8⟩)) (fun u8 s8 r => ?_) fun _ _ z => z.elim
        obtain ⟨v8, H8, I8, r8, g8, den8⟩ := r
        obtain ⟨eD, nD, neD, nfD, _⟩ := I8.pin (Dd, { cls := .type "list", data := .seq its.toArray cnt }) (List.mem_append_right _ (List.mem_append_left _ (List.mem_singleton.mpr rfl)))
        have hlv : its.length = ys.length := by rw [← rv.length, ← dv.length]
        refine call_meets F.slot_list_append ⟨_, eD, rfl⟩ F.entry_list_append (F.args_list_append_2 _ _) (PySem.list_append Dd its.toArray cnt u8 (by rw [List.size_toArray]; omega)) ⟨eD, ?_⟩
        have hpush : its.toArray.push u8 = (its ++ [u8]).toArray := by simp
        obtain ⟨cnt', q⟩ : ∃ c, (s8.heap.update Dd (Obj.mapSeq (·.push u8))).get? Dd = some { cls := .type "list", data := .seq (its ++ [u8]).toArray c } :=
          ⟨_, by have q := PySem.IsL.update eD (·.push u8); rw [hpush] at q; exact q⟩
        have I9 := (I8.pins_of (pins' := []) fun p hp => absurd hp (by simp)).turned (it := Dd) (h' := s8.heap.update Dd (Obj.mapSeq (·.push u8))) (t' := s8.toks)
          (fun b o hb e => (Heap.get?_update_other s8.heap _ (Ne.symm hb)).trans e) nD neD (.inr (Nat.le_of_eq hDd)) cne (fun p hp => absurd hp (by simp))
        refine ⟨xs.length - (i + 1), by omega, i + 1, σ6, H8, its ++ [u8], cnt', vs ++ [v8], ys ++ [dd], rest', I9.pins_of fun p hp => ?_, rv.append (.cons r8 .nil), ?_, ?_, g3.trans (g37.trans g8), sl7.mono g8, (dv.mono ((g37.trans g8)).hd _ _).append (.cons den8 .nil), e4, ?_, hlt, ?_, rfl⟩
        · have hp' := List.mem_singleton.mp hp
          subst hp'
          exact ⟨q, nD, neD, nfD, fun v z => nomatch z⟩
        · refine T.keep _ _ _ st5 fun b hb o e => ?_
          have := (I8.pin (b, o) (List.mem_append_right _ (List.mem_append_right _ (mem_pinsAt hb e)))).1
          exact (Heap.get?_update_other s8.heap _ (Ne.symm (fpD b hb))).trans this
        · intro b hb
          obtain ⟨o, e, _⟩ := T.obj _ _ st5 b hb
          exact (I8.pin (b, o) (List.mem_append_right _ (List.mem_append_right _ (mem_pinsAt hb e)))).2.1
        · rw [List.append_assoc]
          exact hr
        · rw [List.length_append, List.length_singleton]
          omega
    · have e : i = xs.length := by omega
      subst e
      rw [List.drop_length] at cm
      cases cm
      rw [List.append_nil] at hr
      subst hr
      refine thn (T.done (cxB X sc N Cc s2 H2 fp) rfl rfl rfl hc _ _ s3 σ3 H3 _ I3 (statF fr3) st3 ((wk _ os H3 sl3.live g3.hd).2 rfl)) fun rr s4 ⟨hrr, I4⟩ => ?_
      subst hrr
      obtain ⟨mm, hnn, _⟩ := I4.loc
      refine ⟨mm, hnn, fun h' sb => ?_⟩
      have hlv := dv.length
      have nD : H3 Dd = none := (I4.pin (Dd, { cls := .type "list", data := .seq its.toArray cnt }) (List.mem_append_right _ (List.mem_singleton.mpr rfl))).2.1
      refine ⟨.ref Dd, _, block_end I2 f2 (Nat.le_of_eq hDd) hDC leC I4 rv (by omega) sb, rfl, ?_⟩
      exact kq _ _ (g2.trans (g3.trans (same_new nD _))) ((g2.trans g3).free nD) ⟨vs, upd_same, dv.mono (new_own nD _) _ _⟩
  exact codeAny_compStart_list (loop _ rfl) (T.self X.A 0 _ _ _ (T.keep _ _ _ st2 fun b hb o e => old b o e) (loop _ rfl))
theorem df_comp {elt tg iter : Expr} {ifs : List Expr} {pos : Pos} {mi : MI} {g : MG} {mc : MT} {me : ME} (hc : X.calm = true) (S : CompScope scX sc NX N k fv) (hX : X.env.scope = scX) (hN : X.N = NX) (hi : DI X tg iter mi) (hbl : Below k g)
    (hb : ∀ C s H fp, DG (cxB X sc N C s H fp) tg g ∧ DIfs (cxB X sc N C s H fp) ifs mc ∧ DE (cxB X sc N C s H fp) elt me)
    (hs : ∀ x, foldedSetIterable iter X.env x = pure x := by intro _; rfl) (hil : ifs.length ≤ 1 := by decide) :
    DF X (.ListComp elt [⟨tg, iter, ifs, 0⟩] sc pos) (eComp k fv mi g mc me) := df_compB (B := pick k fv) blk_pick hc S hX hN hi hbl hil hb hs
theorem de_comp {elt tg iter : Expr} {ifs : List Expr} {pos : Pos} {mi : MI} {g : MG} {mc : MT} {me : ME} (hc : X.calm = true) (S : CompScope scX sc NX N k fv) (hX : X.env.scope = scX) (hN : X.N = NX) (hi : DI X tg iter mi) (hbl : Below k g)
    (hb : ∀ C s H fp, DG (cxB X sc N C s H fp) tg g ∧ DIfs (cxB X sc N C s H fp) ifs mc ∧ DE (cxB X sc N C s H fp) elt me)
    (hs : ∀ x, foldedSetIterable iter X.env x = pure x := by intro _; rfl) (hil : ifs.length ≤ 1 := by decide) :
    DE X (.ListComp elt [⟨tg, iter, ifs, 0⟩] sc pos) (eComp k fv mi g mc me) := (df_comp hc S hX hN hi hbl hb hs hil).de
theorem blk_own {n : Nat} (hn : X.N.length = n) : Blk X k fv (fun δ => pick k fv δ ++ pick k (fv.map (n + ·)) δ) := by
  refine ⟨fun δ => by rw [List.length_append, pick_length]; omega, fun δ i d hi h => ?_, fun δ i h => ?_, fun δ i d hx hi h1 h2 => ?_⟩
  · rw [List.getElem?_append_left (by rw [pick_length]; exact hi)] at h
    exact pick_some h
  · rw [List.getElem?_append_left (by rw [pick_length]; omega)]
    unfold pick
    rw [List.getElem?_append_left (by simpa using h), List.getElem?_replicate, if_pos h]
  · rw [List.getElem?_append_left (by rw [pick_length]; exact hi)] at h1
    rw [List.getElem?_append_right (by rw [pick_length]; omega), pick_length, Nat.add_sub_cancel_left] at h2
    obtain ⟨t, j, rfl, e1, e2⟩ := pick_some h2
    rw [List.getElem?_map] at e1
    cases e : fv[t]? with
    | none => rw [e] at e1; cases e1
    | some y =>
      rw [e] at e1
      cases e1
      refine ⟨t, y, rfl, e, fun hy => ?_, by rw [hn]; exact e2⟩
      unfold pick at h1
      rw [List.getElem?_append_right (by simp), List.length_replicate, List.getElem?_map, Nat.add_sub_cancel_left, e] at h1
      have h1' : slot δ y = none := by simpa using h1
      have hyl : y < δ.length := by omega
      unfold slot at h1'
      rw [List.getElem?_eq_getElem hyl] at h1' ⊢
      exact congrArg some h1'
theorem df_compO {n : Nat} {elt tg iter : Expr} {ifs : List Expr} {pos : Pos} {mi : MI} {g : MG} {mc : MT} {me : ME} (hn : X.N.length = n) (hc : X.calm = true) (S : CompScope scX sc NX N k fv) (hX : X.env.scope = scX) (hN : X.N = NX) (hi : DI X tg iter mi) (hbl : Below k g)
    (hb : ∀ C s H fp, DG (cxB X sc N C s H fp) tg g ∧ DIfs (cxB X sc N C s H fp) ifs mc ∧ DE (cxB X sc N C s H fp) elt me)
    (hs : ∀ x, foldedSetIterable iter X.env x = pure x := by intro _; rfl) (hil : ifs.length ≤ 1 := by decide) :
    DF X (.ListComp elt [⟨tg, iter, ifs, 0⟩] sc pos) (eCompO k n fv mi g mc me) := df_compB (blk_own hn) hc S hX hN hi hbl hil hb hs

end
end DL

set_option Elab.async false
set_option linter.all false
set_option maxRecDepth 100000
namespace DL
open PySem PySem.Spec PyProof.Rows L2
open AutoSeq1 (wpAny_loadPart')
section
variable {X : Cx} {a b c e : Expr} {es : List Expr} {ma mb mc me : ME} {pos p : Pos}

/-! tuple * int -/
theorem tuple_mul1 (l : Addr) (items : Array Value) (n : Nat) (u : Tok) (dd : Option Addr) (sl : Array (Option Value)) :
    Meets (Builtin.«tuple.__mul__» ⟨[.ref l, .int 1 u], []⟩) (fun _ R s => s.heap.get? l = some { cls := .type "tuple", dict := dd, data := .seq items n, slots := sl } ∧ R (.ok (.ret (Value.ref l))) s) :=
  .of_wp fun prog w A R s h => by
    obtain ⟨hp, g, d, tk, os⟩ := s; obtain ⟨hl, h⟩ := h
    have f1 := AutoSeq1.idx_int
    have f2 := AutoSeq1.sub_tuple_tuple
    have hc1 : (items.isEmpty || (1 : Int) == 1) = true := by simp
    wp_walk using wpAny_loadPart' hl
    exact ⟨_, rfl, h⟩
theorem tuple_mulN (l : Addr) (items : Array Value) (n : Nat) (x : Int) (u : Tok) (dd : Option Addr) (sl : Array (Option Value)) (hc0 : ¬(decide (x < -(2 ^ 63)) || decide (x ≥ 2 ^ 63)) = true) (hc1 : ¬(items.isEmpty || x == 1) = true) (hc2 : ¬(decide (x ≤ 0) || items.isEmpty) = true)
    (hc3 : ¬(items.size : Int) * x > (2 ^ 63 - 1) / 8) (hc4 : ¬Builtin.Tuple.tupleTooMany ((items.size : Int) * x) = true) (hsz : sizeOk (.seq (List.foldl (fun x1 x2 => x1 ++ x2) #[] (List.replicate x.toNat items)))) :
    Meets (Builtin.«tuple.__mul__» ⟨[.ref l, .int x u], []⟩) (fun _ R s => s.heap.get? l = some { cls := .type "tuple", dict := dd, data := .seq items n, slots := sl } ∧
      R (.ok (.ret (Value.ref s.heap.objs.size))) { s with heap := s.heap.push { cls := Value.type "tuple", data := Data.seq (List.foldl (fun x1 x2 => x1 ++ x2) #[] (List.replicate x.toNat items)) } }) :=
  .of_wp fun prog w A R s h => by
    obtain ⟨hp, g, d, tk, os⟩ := s; obtain ⟨hl, h⟩ := h
    have f1 := AutoSeq1.idx_int
    have f2 := AutoSeq1.sub_tuple_tuple
    wp_walk using wpAny_loadPart' hl
    refine wpAny_ite_false (decide_eq_false hc0) ?_
    wp_walk using wpAny_loadPart' hl
    refine wpAny_ite_false (decide_eq_false hc3) ?_
    wp_walk using wpAny_loadPart' hl
    refine wpAny_ite_false (decide_eq_false (Nat.not_lt.mpr hsz)) ?_
    wp_walk using wpAny_loadPart' hl
    exact ⟨_, rfl, h⟩
def rRepT (K : PySem.W.Frag) : R2 := fun x y H Q => ∃ l k xs, x = .ref l ∧ y = .int k ∧ SqT K H l xs ∧ 0 < k ∧ k ≤ 1000 ∧ 0 < xs.length ∧ xs.length ≤ 1000 ∧ (k = 1 → Q (.ref l) H) ∧
  (k ≠ 1 → ∀ p, H p = none → Q (.ref p) (upd H p (.tup (List.replicate k.toNat xs).flatten)))
theorem op_repT : OpR X (binaryOp .Mult) (rRepT X.K) := by
  intro pins s σ H x y v u Q I rx ry h
  obtain ⟨l, k, xs, rfl, rfl, hl, h0, h1, h2, h3, q1, q2⟩ := h
  cases rx
  obtain ⟨t, rfl⟩ := ry
  obtain ⟨its, r, ⟨⟨c1, d1, dt1, sl1⟩, e1, c1', n1, t1'⟩, _⟩ := I.tuple hl
  simp only at c1' t1'
  subst c1' t1'
  have hlen := r.length
  refine wpAny_binaryOp_repeat_ref (T := "tuple") (U := "int") (by decide) ⟨_, e1, rfl⟩ (fun s' => typeIs_int s' k t) noFill_tuple_mul F.fills_int_mul F.slot_int_rmul repeat_tuple F.slot_int_index.lookup
    (call_meets F.slot_int_rmul (typeIs_int s k t) F.entry_int_rmul (F.args_int_rmul_2 _ _) (int_rmul_tuple k t l its.toArray n1 d1 sl1) ⟨e1, rfl, ⟨_, e1, rfl⟩, ?_⟩)
  by_cases hk : k = 1
  · subst hk
    exact call_meets F.slot_tuple_mul ⟨_, e1, rfl⟩ F.entry_tuple_mul (F.args_tuple_mul_2 _ _) (tuple_mul1 l its.toArray n1 t d1 sl1) ⟨e1, ⟨.ref l, H, I, rfl, q1 rfl⟩⟩
  · have hnew : List.foldl (fun x1 x2 => x1 ++ x2) #[] (List.replicate k.toNat its.toArray) = (List.replicate k.toNat its).flatten.toArray := by
      have := foldl_rep its k.toNat []
      rw [List.nil_append] at this
      exact this
    have hfl : (List.replicate k.toNat its).flatten.length = k.toNat * its.length := len_rep its k.toNat
    have hb : k.toNat * its.length ≤ 1000 * 1000 := Nat.mul_le_mul (by omega) (by omega)
    have hbi : (its.length : Int) * k ≤ 1000 * 1000 := by
      have e : (its.length : Int) * k = ((k.toNat * its.length : Nat) : Int) := by
        rw [Nat.mul_comm]
        push_cast
        rw [Int.toNat_of_nonneg (by omega)]
      rw [e]
      exact_mod_cast hb
    have hne : its ≠ [] := by intro z; rw [z, List.length_nil] at hlen; omega
    have hie : its.toArray.isEmpty = false := by simpa using hne
    have hz : (List.replicate k.toNat its).flatten.length ≤ sizeLine := by rw [hfl, lim_eq]; omega
    refine call_meets F.slot_tuple_mul ⟨_, e1, rfl⟩ F.entry_tuple_mul (F.args_tuple_mul_2 _ _) (tuple_mulN l its.toArray n1 k t d1 sl1 (by simp; omega) (by rw [hie]; simpa using hk) (by rw [hie]; simp; omega)
      (by rw [List.size_toArray]; omega) (by rw [List.size_toArray]; have hsz := lim_eq; simp [Builtin.Tuple.tupleTooMany]; omega) (by rw [hnew]; show (List.replicate k.toNat its).flatten.toArray.size ≤ sizeLine; rw [List.size_toArray]; exact hz)) ⟨e1, ?_⟩
    rw [hnew]
    refine ⟨.ref s.heap.objs.size, _, I.laid (t' := s.toks) (o := .tup (List.replicate k.toNat xs).flatten) (fun b ob q => Heap.get?_push_of_some _ q) (Nat.le_refl _) ?_, rfl, q2 hk _ (I.hok.fresh (Nat.le_refl _))⟩
    exact ⟨by rw [len_rep, hlen, ← hfl]; exact hz, _, r.rep k.toNat, IsTup.new _ _⟩
theorem od_mul : OpD X (binaryOp .Mult) oMul := by
  refine ⟨_, op_mul.or op_repT, fun os H L dx dy d x y Q rx ry m k => ?_⟩
  cases dy with
  | int j =>
    cases dx with
    | int i =>
      have m' : (if (small j || small i) = true then some (D.int (i * j)) else none) = some d := m
      split at m'
      · rename_i hs
        cases m'
        refine .inl ⟨i, j, rx.int_inv, ry.int_inv, ?_, k _ H (Same.refl _) (.int _)⟩
        simp [small] at hs
        rcases hs with hs | hs
        · exact .inr ⟨hs.1, hs.2⟩
        · exact .inl ⟨hs.1, hs.2⟩
      · cases m'
    | tup xs =>
      have m' : (if (decide (0 < j) && decide (j ≤ 1000) && decide (0 < xs.length) && decide (xs.length ≤ 1000)) = true then some (D.tup (List.replicate j.toNat xs).flatten) else none) = some d := m
      split at m'
      · rename_i hs
        cases m'
        simp only [Bool.and_eq_true, decide_eq_true_eq] at hs
        obtain ⟨⟨⟨h1, h2⟩, h3⟩, h4⟩ := hs
        obtain ⟨a, vs, rfl, g1, g2⟩ := rx.tup_up
        have hl := g2.length
        refine .inr ⟨a, j, vs, rfl, ry.int_inv, g1, h1, h2, by omega, by omega, fun e => ?_, fun _ p hp => ?_⟩
        · subst e
          exact k _ H (Same.refl _) (by simpa using rx)
        · exact k _ _ (same_new hp (.tup (List.replicate j.toNat vs).flatten)) (.newT L hp (g2.flat j.toNat))
      · cases m'
    | _ => cases m
  | _ => cases dx <;> cases m
/-! comparisons -/
theorem od_lt : OpD X (compareOp .Lt) oLt := by
  refine ⟨_, op_lt, fun os H L dx dy d x y Q rx ry m k => ?_⟩
  obtain ⟨i, j, rfl, rfl, m⟩ := oi_inv m
  cases m
  exact ⟨i, j, rx.int_inv, ry.int_inv, k _ H (Same.refl _) (.bl _)⟩
theorem od_le : OpD X (compareOp .LtE) oLe := by
  refine ⟨_, op_le, fun os H L dx dy d x y Q rx ry m k => ?_⟩
  obtain ⟨i, j, rfl, rfl, m⟩ := oi_inv m
  cases m
  exact ⟨i, j, rx.int_inv, ry.int_inv, k _ H (Same.refl _) (.bl _)⟩
theorem od_gt : OpD X (compareOp .Gt) oGt := by
  refine ⟨_, op_gt, fun os H L dx dy d x y Q rx ry m k => ?_⟩
  obtain ⟨i, j, rfl, rfl, m⟩ := oi_inv m
  cases m
  exact ⟨i, j, rx.int_inv, ry.int_inv, k _ H (Same.refl _) (.bl _)⟩
theorem od_ge : OpD X (compareOp .GtE) oGe := by
  refine ⟨_, op_ge, fun os H L dx dy d x y Q rx ry m k => ?_⟩
  obtain ⟨i, j, rfl, rfl, m⟩ := oi_inv m
  cases m
  exact ⟨i, j, rx.int_inv, ry.int_inv, k _ H (Same.refl _) (.bl _)⟩
theorem ud_neg : UnD X (unaryOp .USub) uNeg := by
  refine ⟨_, un_neg, fun os H L dx d x Q rx m k => ?_⟩
  cases dx with
  | int i => cases m; exact ⟨i, rx.int_inv, k _ H (Same.refl _) (.int _)⟩
  | _ => cases m
theorem bl_oi {g : Int → Int → Bool} {dx dy d : D} (h : oI (fun i j => some (.bl (g i j))) dx dy = some d) : ∃ k, d = .bl k := by
  obtain ⟨i, j, rfl, rfl, m⟩ := oi_inv h
  cases m
  exact ⟨_, rfl⟩
theorem bl_lt (x y d : D) (h : oLt x y = some d) : ∃ k, d = .bl k := bl_oi h
theorem bl_le (x y d : D) (h : oLe x y = some d) : ∃ k, d = .bl k := bl_oi h
theorem bl_gt (x y d : D) (h : oGt x y = some d) : ∃ k, d = .bl k := bl_oi h
theorem bl_ge (x y d : D) (h : oGe x y = some d) : ∃ k, d = .bl k := bl_oi h
theorem bl_eq (x y d : D) (h : oEq x y = some d) : ∃ k, d = .bl k := by
  unfold oEq at h
  split at h
  · cases h; exact ⟨_, rfl⟩
  · cases h
theorem bl_ne (x y d : D) (h : oNe x y = some d) : ∃ k, d = .bl k := by
  unfold oNe at h
  split at h
  · cases h; exact ⟨_, rfl⟩
  · cases h
theorem bl_in (x y d : D) (h : oIn x y = some d) : ∃ k, d = .bl k := by
  unfold oIn at h
  split at h
  · split at h
    · cases h; exact ⟨_, rfl⟩
    · cases h
  · split at h
    · cases h; exact ⟨_, rfl⟩
    · cases h
  · cases h; exact ⟨_, rfl⟩
  · cases h
end
end DL

set_option Elab.async false
set_option linter.all false
set_option maxRecDepth 100000
namespace DL
open PySem PySem.Spec PyProof.Rows L2
section
variable {X : Cx} {pins : List (Addr × Obj)} {σ : L2.St} {H : Hp} {s : Shared}
/-- what a value means is one thing -/
theorem not_both (I : Inv X pins σ H s) {a : Addr} {xs ys : List V} (h1 : SqL X.K H a xs) (h2 : SqT X.K H a ys) : False := by
  obtain ⟨i1, _, p1, _⟩ := I.list h1
  obtain ⟨i2, _, p2, _⟩ := I.tuple h2
  exact (SeqAt.ne_of_list_tuple (s := s) p1.isList p2) rfl
mutual
theorem Den.inj (I : Inv X pins σ H s) : ∀ {d e : D} {v : V}, depD d ≤ 30 → depD e ≤ 30 → Den X.K H d v → Den X.K H e v → d = e
  | .non, e, v, _, he, h, g => by
    rw [h.non_inv] at g
    cases e with
    | non => rfl
    | bl z => cases g.bl_inv
    | int z => cases g.int_inv
    | str z => cases g.str_inv
    | tup z => obtain ⟨_, _, q, _⟩ := g.tup_sq; cases q
    | lst z => obtain ⟨_, _, q, _⟩ := g.lst_inv; cases q
    | dic z w => simp [depD] at he
  | .bl b, e, v, _, he, h, g => by
    rw [h.bl_inv] at g
    cases e with
    | non => cases g.non_inv
    | bl z => cases g.bl_inv; rfl
    | int z => cases g.int_inv
    | str z => cases g.str_inv
    | tup z => obtain ⟨_, _, q, _⟩ := g.tup_sq; cases q
    | lst z => obtain ⟨_, _, q, _⟩ := g.lst_inv; cases q
    | dic z w => simp [depD] at he
  | .int b, e, v, _, he, h, g => by
    rw [h.int_inv] at g
    cases e with
    | non => cases g.non_inv
    | bl z => cases g.bl_inv
    | int z => cases g.int_inv; rfl
    | str z => cases g.str_inv
    | tup z => obtain ⟨_, _, q, _⟩ := g.tup_sq; cases q
    | lst z => obtain ⟨_, _, q, _⟩ := g.lst_inv; cases q
    | dic z w => simp [depD] at he
  | .str b, e, v, _, he, h, g => by
    rw [h.str_inv] at g
    cases e with
    | non => cases g.non_inv
    | bl z => cases g.bl_inv
    | int z => cases g.int_inv
    | str z => cases g.str_inv; rfl
    | tup z => obtain ⟨_, _, q, _⟩ := g.tup_sq; cases q
    | lst z => obtain ⟨_, _, q, _⟩ := g.lst_inv; cases q
    | dic z w => simp [depD] at he
  | .tup ds, e, v, hd, he, h, g => by
    obtain ⟨a, xs, rfl, h1, h2⟩ := h.tup_sq
    simp only [depD] at hd
    cases e with
    | non => cases g.non_inv
    | bl z => cases g.bl_inv
    | int z => cases g.int_inv
    | str z => cases g.str_inv
    | dic z w => simp [depD] at he
    | tup es =>
      simp only [depD] at he
      obtain ⟨b, ys, q, g1, g2⟩ := g.tup_sq
      cases q
      rw [← I.tuple_inj h1 g1] at g2
      rw [Dens.inj I (by omega) (by omega) h2 g2]
    | lst es =>
      obtain ⟨b, ys, q, g1, g2⟩ := g.lst_inv
      cases q
      exact (not_both I g1 h1).elim
  | .lst ds, e, v, hd, he, h, g => by
    obtain ⟨a, xs, rfl, h1, h2⟩ := h.lst_inv
    simp only [depD] at hd
    cases e with
    | non => cases g.non_inv
    | bl z => cases g.bl_inv
    | int z => cases g.int_inv
    | str z => cases g.str_inv
    | dic z w => simp [depD] at he
    | lst es =>
      simp only [depD] at he
      obtain ⟨b, ys, q, g1, g2⟩ := g.lst_inv
      cases q
      rw [← I.list_inj h1 g1] at g2
      rw [Dens.inj I (by omega) (by omega) h2 g2]
    | tup es =>
      obtain ⟨b, ys, q, g1, g2⟩ := g.tup_sq
      cases q
      exact (not_both I h1 g1).elim
  | .dic ks vs, e, v, hd, _, _, _ => by simp [depD] at hd
theorem Dens.inj (I : Inv X pins σ H s) : ∀ {ds es : List D} {xs : List V}, depDs ds ≤ 30 → depDs es ≤ 30 → Dens X.K H ds xs → Dens X.K H es xs → ds = es
  | [], [], _, _, _, _, _ => rfl
  | [], e :: es, _, _, _, h, g => by obtain ⟨x, r, q, _⟩ := g.uncons; rw [h.unnil] at q; cases q
  | d :: ds, [], _, _, _, h, g => by obtain ⟨x, r, q, _⟩ := h.uncons; rw [g.unnil] at q; cases q
  | d :: ds, e :: es, _, hd, he, h, g => by
    obtain ⟨x, r, rfl, h1, h2⟩ := h.uncons
    obtain ⟨y, t, q, g1, g2⟩ := g.uncons
    cases q
    simp only [depDs] at hd he
    rw [Den.inj I (by omega) (by omega) h1 g1, Dens.inj I (by omega) (by omega) h2 g2]
end
abbrev El (A : Around) (s : Shared) (ds es : List D) (its its2 : List Value) : Prop :=
  ∀ j (h1 : j < its.toArray.size) (h2 : j < its2.toArray.size), SeqAt.EqAt A.in1 s its.toArray[j] its2.toArray[j] (eqD (ds.getD j .non) (es.getD j .non))
theorem rc_tup {A : Around} {l b : Addr} {its its2 : List Value} {ds es : List D} {xs ys : List V} (I : Inv X pins σ H s) (hu : A.units < cLine) (hl : IsTup s.heap l its.toArray) (hb : IsTup s.heap b its2.toArray) (r1 : Vals xs its) (r2 : Vals ys its2) (d1 : Dens X.K H ds xs) (d2 : Dens X.K H es ys) (he : El A s ds es its its2) :
    SeqAt.RcAt A s (.ref l) (.ref b) (eqD (.tup ds) (.tup es)) := by
  have q := SeqAt.RcAt.tuples (A := A) (s := s) hl hb hu he
  have e1 : its.toArray.size = ds.length := by rw [List.size_toArray, ← r1.length, d1.length]
  have e2 : its2.toArray.size = es.length := by rw [List.size_toArray, ← r2.length, d2.length]
  rw [e1, e2, eqDs_range] at q
  rw [eqD]
  exact q
theorem rn_tup {A : Around} {l b : Addr} {its its2 : List Value} {ds es : List D} {xs ys : List V} (I : Inv X pins σ H s) (hu : A.units < cLine) (hl : IsTup s.heap l its.toArray) (hb : IsTup s.heap b its2.toArray) (r1 : Vals xs its) (r2 : Vals ys its2) (d1 : Dens X.K H ds xs) (d2 : Dens X.K H es ys) (he : El A s ds es its its2) :
    SeqAt.RcNeAt A s (.ref l) (.ref b) (!eqD (.tup ds) (.tup es)) := by
  have q := SeqAt.RcNeAt.tuples (A := A) (s := s) hl hb hu he
  have e1 : its.toArray.size = ds.length := by rw [List.size_toArray, ← r1.length, d1.length]
  have e2 : its2.toArray.size = es.length := by rw [List.size_toArray, ← r2.length, d2.length]
  rw [e1, e2, eqDs_range] at q
  rw [eqD]
  exact q
theorem rc_lst {A : Around} {l b : Addr} {its its2 : List Value} {ds es : List D} {xs ys : List V} (I : Inv X pins σ H s) (hu : A.units < cLine) (hl : PlainL s.heap l its.toArray) (hb : PlainL s.heap b its2.toArray) (r1 : Vals xs its) (r2 : Vals ys its2) (d1 : Dens X.K H ds xs) (d2 : Dens X.K H es ys) (he : El A s ds es its its2) :
    SeqAt.RcAt A s (.ref l) (.ref b) (eqD (.lst ds) (.lst es)) := by
  have e1 : its.toArray.size = ds.length := by rw [List.size_toArray, ← r1.length, d1.length]
  have e2 : its2.toArray.size = es.length := by rw [List.size_toArray, ← r2.length, d2.length]
  have er := eqDs_range ds es
  rw [eqD, ← er]
  by_cases hs : ds.length = es.length
  · have q := SeqAt.RcAt.lists (A := A) (s := s) hl.isList hb.isList (by rw [e1, e2]; exact hs) hu he
    rw [e1] at q
    rw [hs, Nat.min_self, beq_self_eq_true, Bool.and_true, ← hs]
    exact q
  · have q := SeqAt.RcAt.lists_lengths (A := A) (s := s) hl.isList hb.isList (by rw [e1, e2]; simpa using hs) hu
    have hb' : (ds.length == es.length) = false := by simpa using hs
    rw [hb', Bool.and_false]
    exact q
theorem rn_lst {A : Around} {l b : Addr} {its its2 : List Value} {ds es : List D} {xs ys : List V} (I : Inv X pins σ H s) (hu : A.units < cLine) (hl : PlainL s.heap l its.toArray) (hb : PlainL s.heap b its2.toArray) (r1 : Vals xs its) (r2 : Vals ys its2) (d1 : Dens X.K H ds xs) (d2 : Dens X.K H es ys) (he : El A s ds es its its2) :
    SeqAt.RcNeAt A s (.ref l) (.ref b) (!eqD (.lst ds) (.lst es)) := by
  have e1 : its.toArray.size = ds.length := by rw [List.size_toArray, ← r1.length, d1.length]
  have e2 : its2.toArray.size = es.length := by rw [List.size_toArray, ← r2.length, d2.length]
  have er := eqDs_range ds es
  rw [eqD, ← er]
  by_cases hs : ds.length = es.length
  · have q := SeqAt.RcNeAt.lists (A := A) (s := s) hl.isList hb.isList (by rw [e1, e2]; exact hs) hu he
    rw [e1] at q
    rw [hs, Nat.min_self, beq_self_eq_true, Bool.and_true, ← hs]
    exact q
  · have q := SeqAt.RcNeAt.lists_lengths (A := A) (s := s) hl.isList hb.isList (by rw [e1, e2]; simpa using hs) hu
    have hb' : (ds.length == es.length) = false := by simpa using hs
    rw [hb', Bool.and_false]
    exact q
/-- the items, one beside the other -/
theorem items_of {A : Around} {n : Nat} (el : ∀ (A : Around) (dx dy : D) (x y : V) (v u : Value), depD dx ≤ n → (depD dx ≤ 30 ∧ depD dy ≤ 30) → A.units + n < cLine → Den X.K H dx x → Den X.K H dy y → RelV x v → RelV y u → SeqAt.EqAt A s v u (eqD dx dy))
    {ds es : List D} {xs ys : List V} {its its2 : List Value} (hd : ∀ d ∈ ds, depD d ≤ n) (hb : (∀ d ∈ ds, depD d ≤ 30) ∧ (∀ d ∈ es, depD d ≤ 30)) (hu : A.units + 1 + n < cLine) (d1 : Dens X.K H ds xs) (d2 : Dens X.K H es ys) (r1 : Vals xs its) (r2 : Vals ys its2) : El A s ds es its its2 := by
  intro j h1 h2
  rw [List.size_toArray] at h1 h2
  have l1 := r1.length
  have l2 := r2.length
  have m1 := d1.length
  have m2 := d2.length
  have j1 : j < ds.length := by omega
  have j2 : j < es.length := by omega
  obtain ⟨x, hx, q1⟩ := d1.get (i := j) (d := ds[j]) (List.getElem?_eq_getElem j1)
  obtain ⟨y, hy, q2⟩ := d2.get (i := j) (d := es[j]) (List.getElem?_eq_getElem j2)
  obtain ⟨v, hv, w1⟩ := r1.get hx
  obtain ⟨u, hu', w2⟩ := r2.get hy
  have ev : its.toArray[j] = v := by
    rw [List.getElem?_eq_getElem h1] at hv
    simpa using hv
  have eu : its2.toArray[j] = u := by
    rw [List.getElem?_eq_getElem h2] at hu'
    simpa using hu'
  rw [ev, eu, List.getD_eq_getElem?_getD, List.getD_eq_getElem?_getD, List.getElem?_eq_getElem j1, List.getElem?_eq_getElem j2]
  exact el A.in1 ds[j] es[j] x y v u (hd _ (List.getElem_mem j1)) ⟨hb.1 _ (List.getElem_mem j1), hb.2 _ (List.getElem_mem j2)⟩ hu q1 q2 w1 w2
theorem el_at (I : Inv X pins σ H s) : ∀ (n : Nat) (A : Around) (dx dy : D) (x y : V) (v u : Value), depD dx ≤ n → (depD dx ≤ 30 ∧ depD dy ≤ 30) → A.units + n < cLine → Den X.K H dx x → Den X.K H dy y → RelV x v → RelV y u → SeqAt.EqAt A s v u (eqD dx dy) := by
  intro n
  induction n with
  | zero =>
    intro A dx dy x y v u hd hb hu0 rx ry vx vy
    have hu : A.units < cLine := by omega
    cases dx with
    | dic z1 z2 => exact absurd hb.1 (by simp [depD])
    | non =>
      rw [rx.non_inv] at vx; cases vx
      cases dy with
      | dic z1 z2 => exact absurd hb.2 (by simp [depD])
      | non =>
        rw [ry.non_inv] at vy; cases vy
        exact (SeqAt.EqAt.same _)
      | bl z2 =>
        rw [ry.bl_inv] at vy; cases vy
        exact (SeqAt.EqAt.none_bool _)
      | int z2 =>
        rw [ry.int_inv] at vy; obtain ⟨ty, rfl⟩ := vy
        exact (SeqAt.EqAt.none_int _ _)
      | str z2 =>
        rw [ry.str_inv] at vy; obtain ⟨ty, rfl⟩ := vy
        exact (SeqAt.EqAt.none_str _ _)
      | lst ds2 =>
        obtain ⟨ay, xsy, rfl, hy1, hy2⟩ := ry.lst_inv; cases vy; obtain ⟨itsy, ry', py, _⟩ := I.list hy1
        exact (SeqAt.EqAt.none_list py.isList hu)
      | tup ds2 =>
        obtain ⟨ay, xsy, rfl, hy1, hy2⟩ := ry.tup_sq; cases vy; obtain ⟨itsy, ry', py, _⟩ := I.tuple hy1
        exact (SeqAt.EqAt.none_tuple py hu)
    | bl z1 =>
      rw [rx.bl_inv] at vx; cases vx
      cases dy with
      | dic z1 z2 => exact absurd hb.2 (by simp [depD])
      | non =>
        rw [ry.non_inv] at vy; cases vy
        exact (SeqAt.EqAt.bool_none _)
      | bl z2 =>
        rw [ry.bl_inv] at vy; cases vy
        exact (SeqAt.EqAt.bool_bool _ _)
      | int z2 =>
        rw [ry.int_inv] at vy; obtain ⟨ty, rfl⟩ := vy
        exact (SeqAt.EqAt.bool_int _ _ _)
      | str z2 =>
        rw [ry.str_inv] at vy; obtain ⟨ty, rfl⟩ := vy
        exact (SeqAt.EqAt.bool_str _ _ _)
      | lst ds2 =>
        obtain ⟨ay, xsy, rfl, hy1, hy2⟩ := ry.lst_inv; cases vy; obtain ⟨itsy, ry', py, _⟩ := I.list hy1
        exact (SeqAt.EqAt.bool_list _ py.isList hu)
      | tup ds2 =>
        obtain ⟨ay, xsy, rfl, hy1, hy2⟩ := ry.tup_sq; cases vy; obtain ⟨itsy, ry', py, _⟩ := I.tuple hy1
        exact (SeqAt.EqAt.bool_tuple _ py hu)
    | int z1 =>
      rw [rx.int_inv] at vx; obtain ⟨tx, rfl⟩ := vx
      cases dy with
      | dic z1 z2 => exact absurd hb.2 (by simp [depD])
      | non =>
        rw [ry.non_inv] at vy; cases vy
        exact (SeqAt.EqAt.int_none _ _)
      | bl z2 =>
        rw [ry.bl_inv] at vy; cases vy
        exact (SeqAt.EqAt.int_bool _ _ _)
      | int z2 =>
        rw [ry.int_inv] at vy; obtain ⟨ty, rfl⟩ := vy
        exact (SeqAt.EqAt.int_int _ _ _ _)
      | str z2 =>
        rw [ry.str_inv] at vy; obtain ⟨ty, rfl⟩ := vy
        exact (SeqAt.EqAt.int_str _ _ _ _)
      | lst ds2 =>
        obtain ⟨ay, xsy, rfl, hy1, hy2⟩ := ry.lst_inv; cases vy; obtain ⟨itsy, ry', py, _⟩ := I.list hy1
        exact (SeqAt.EqAt.int_list _ _ py.isList hu)
      | tup ds2 =>
        obtain ⟨ay, xsy, rfl, hy1, hy2⟩ := ry.tup_sq; cases vy; obtain ⟨itsy, ry', py, _⟩ := I.tuple hy1
        exact (SeqAt.EqAt.int_tuple _ _ py hu)
    | str z1 =>
      rw [rx.str_inv] at vx; obtain ⟨tx, rfl⟩ := vx
      cases dy with
      | dic z1 z2 => exact absurd hb.2 (by simp [depD])
      | non =>
        rw [ry.non_inv] at vy; cases vy
        exact (SeqAt.EqAt.str_none _ _)
      | bl z2 =>
        rw [ry.bl_inv] at vy; cases vy
        exact (SeqAt.EqAt.str_bool _ _ _)
      | int z2 =>
        rw [ry.int_inv] at vy; obtain ⟨ty, rfl⟩ := vy
        exact (SeqAt.EqAt.str_int _ _ _ _)
      | str z2 =>
        rw [ry.str_inv] at vy; obtain ⟨ty, rfl⟩ := vy
        exact (SeqAt.EqAt.str_str _ _ _ _)
      | lst ds2 =>
        obtain ⟨ay, xsy, rfl, hy1, hy2⟩ := ry.lst_inv; cases vy; obtain ⟨itsy, ry', py, _⟩ := I.list hy1
        exact (SeqAt.EqAt.str_list _ _ py.isList hu)
      | tup ds2 =>
        obtain ⟨ay, xsy, rfl, hy1, hy2⟩ := ry.tup_sq; cases vy; obtain ⟨itsy, ry', py, _⟩ := I.tuple hy1
        exact (SeqAt.EqAt.str_tuple _ _ py hu)
    | lst ds1 => simp [depD] at hd
    | tup ds1 => simp [depD] at hd
  | succ n ih =>
    intro A dx dy x y v u hd hb hu0 rx ry vx vy
    have hu : A.units < cLine := by omega
    cases dx with
    | dic z1 z2 => exact absurd hb.1 (by simp [depD])
    | non =>
      rw [rx.non_inv] at vx; cases vx
      cases dy with
      | dic z1 z2 => exact absurd hb.2 (by simp [depD])
      | non =>
        rw [ry.non_inv] at vy; cases vy
        exact (SeqAt.EqAt.same _)
      | bl z2 =>
        rw [ry.bl_inv] at vy; cases vy
        exact (SeqAt.EqAt.none_bool _)
      | int z2 =>
        rw [ry.int_inv] at vy; obtain ⟨ty, rfl⟩ := vy
        exact (SeqAt.EqAt.none_int _ _)
      | str z2 =>
        rw [ry.str_inv] at vy; obtain ⟨ty, rfl⟩ := vy
        exact (SeqAt.EqAt.none_str _ _)
      | lst ds2 =>
        obtain ⟨ay, xsy, rfl, hy1, hy2⟩ := ry.lst_inv; cases vy; obtain ⟨itsy, ry', py, _⟩ := I.list hy1
        exact (SeqAt.EqAt.none_list py.isList hu)
      | tup ds2 =>
        obtain ⟨ay, xsy, rfl, hy1, hy2⟩ := ry.tup_sq; cases vy; obtain ⟨itsy, ry', py, _⟩ := I.tuple hy1
        exact (SeqAt.EqAt.none_tuple py hu)
    | bl z1 =>
      rw [rx.bl_inv] at vx; cases vx
      cases dy with
      | dic z1 z2 => exact absurd hb.2 (by simp [depD])
      | non =>
        rw [ry.non_inv] at vy; cases vy
        exact (SeqAt.EqAt.bool_none _)
      | bl z2 =>
        rw [ry.bl_inv] at vy; cases vy
        exact (SeqAt.EqAt.bool_bool _ _)
      | int z2 =>
        rw [ry.int_inv] at vy; obtain ⟨ty, rfl⟩ := vy
        exact (SeqAt.EqAt.bool_int _ _ _)
      | str z2 =>
        rw [ry.str_inv] at vy; obtain ⟨ty, rfl⟩ := vy
        exact (SeqAt.EqAt.bool_str _ _ _)
      | lst ds2 =>
        obtain ⟨ay, xsy, rfl, hy1, hy2⟩ := ry.lst_inv; cases vy; obtain ⟨itsy, ry', py, _⟩ := I.list hy1
        exact (SeqAt.EqAt.bool_list _ py.isList hu)
      | tup ds2 =>
        obtain ⟨ay, xsy, rfl, hy1, hy2⟩ := ry.tup_sq; cases vy; obtain ⟨itsy, ry', py, _⟩ := I.tuple hy1
        exact (SeqAt.EqAt.bool_tuple _ py hu)
    | int z1 =>
      rw [rx.int_inv] at vx; obtain ⟨tx, rfl⟩ := vx
      cases dy with
      | dic z1 z2 => exact absurd hb.2 (by simp [depD])
      | non =>
        rw [ry.non_inv] at vy; cases vy
        exact (SeqAt.EqAt.int_none _ _)
      | bl z2 =>
        rw [ry.bl_inv] at vy; cases vy
        exact (SeqAt.EqAt.int_bool _ _ _)
      | int z2 =>
        rw [ry.int_inv] at vy; obtain ⟨ty, rfl⟩ := vy
        exact (SeqAt.EqAt.int_int _ _ _ _)
      | str z2 =>
        rw [ry.str_inv] at vy; obtain ⟨ty, rfl⟩ := vy
        exact (SeqAt.EqAt.int_str _ _ _ _)
      | lst ds2 =>
        obtain ⟨ay, xsy, rfl, hy1, hy2⟩ := ry.lst_inv; cases vy; obtain ⟨itsy, ry', py, _⟩ := I.list hy1
        exact (SeqAt.EqAt.int_list _ _ py.isList hu)
      | tup ds2 =>
        obtain ⟨ay, xsy, rfl, hy1, hy2⟩ := ry.tup_sq; cases vy; obtain ⟨itsy, ry', py, _⟩ := I.tuple hy1
        exact (SeqAt.EqAt.int_tuple _ _ py hu)
    | str z1 =>
      rw [rx.str_inv] at vx; obtain ⟨tx, rfl⟩ := vx
      cases dy with
      | dic z1 z2 => exact absurd hb.2 (by simp [depD])
      | non =>
        rw [ry.non_inv] at vy; cases vy
        exact (SeqAt.EqAt.str_none _ _)
      | bl z2 =>
        rw [ry.bl_inv] at vy; cases vy
        exact (SeqAt.EqAt.str_bool _ _ _)
      | int z2 =>
        rw [ry.int_inv] at vy; obtain ⟨ty, rfl⟩ := vy
        exact (SeqAt.EqAt.str_int _ _ _ _)
      | str z2 =>
        rw [ry.str_inv] at vy; obtain ⟨ty, rfl⟩ := vy
        exact (SeqAt.EqAt.str_str _ _ _ _)
      | lst ds2 =>
        obtain ⟨ay, xsy, rfl, hy1, hy2⟩ := ry.lst_inv; cases vy; obtain ⟨itsy, ry', py, _⟩ := I.list hy1
        exact (SeqAt.EqAt.str_list _ _ py.isList hu)
      | tup ds2 =>
        obtain ⟨ay, xsy, rfl, hy1, hy2⟩ := ry.tup_sq; cases vy; obtain ⟨itsy, ry', py, _⟩ := I.tuple hy1
        exact (SeqAt.EqAt.str_tuple _ _ py hu)
    | lst ds1 =>
      obtain ⟨ax, xsx, rfl, hx1, hx2⟩ := rx.lst_inv; cases vx; obtain ⟨itsx, rx', px, _⟩ := I.list hx1
      cases dy with
      | dic z1 z2 => exact absurd hb.2 (by simp [depD])
      | non =>
        rw [ry.non_inv] at vy; cases vy
        exact (SeqAt.EqAt.list_none px.isList hu)
      | bl z2 =>
        rw [ry.bl_inv] at vy; cases vy
        exact (SeqAt.EqAt.list_bool _ px.isList hu)
      | int z2 =>
        rw [ry.int_inv] at vy; obtain ⟨ty, rfl⟩ := vy
        exact (SeqAt.EqAt.list_int _ _ px.isList hu)
      | str z2 =>
        rw [ry.str_inv] at vy; obtain ⟨ty, rfl⟩ := vy
        exact (SeqAt.EqAt.list_str _ _ px.isList hu)
      | lst ds2 =>
        obtain ⟨ay, xsy, rfl, hy1, hy2⟩ := ry.lst_inv; cases vy; obtain ⟨itsy, ry', py, _⟩ := I.list hy1
        by_cases hab : ax = ay
        · subst hab
          have hxy : ds1 = ds2 := (Dens.inj I (by simp only [depD] at hb; omega) (by simp only [depD] at hb; omega) hx2 (by rw [I.list_inj hx1 hy1]; exact hy2))
          subst hxy
          have e1 : eqD (D.lst ds1) (D.lst ds1) = true := eqD_refl _
          rw [e1]
          exact SeqAt.EqAt.same _
        · exact SeqAt.EqAt.of_refs hab (rc_lst I hu px py rx' ry' hx2 hy2 (items_of ih (by simp only [depD] at hd; exact depDs_le.mp (by omega)) (by simp only [depD] at hb; exact ⟨depDs_le.mp (by omega), depDs_le.mp (by omega)⟩) (by omega) hx2 hy2 rx' ry'))
      | tup ds2 =>
        obtain ⟨ay, xsy, rfl, hy1, hy2⟩ := ry.tup_sq; cases vy; obtain ⟨itsy, ry', py, _⟩ := I.tuple hy1
        exact SeqAt.EqAt.of_refs (SeqAt.ne_of_list_tuple (s := s) px.isList py) (SeqAt.RcAt.list_tuple px.isList py hu)
    | tup ds1 =>
      obtain ⟨ax, xsx, rfl, hx1, hx2⟩ := rx.tup_sq; cases vx; obtain ⟨itsx, rx', px, _⟩ := I.tuple hx1
      cases dy with
      | dic z1 z2 => exact absurd hb.2 (by simp [depD])
      | non =>
        rw [ry.non_inv] at vy; cases vy
        exact (SeqAt.EqAt.tuple_none px hu)
      | bl z2 =>
        rw [ry.bl_inv] at vy; cases vy
        exact (SeqAt.EqAt.tuple_bool _ px hu)
      | int z2 =>
        rw [ry.int_inv] at vy; obtain ⟨ty, rfl⟩ := vy
        exact (SeqAt.EqAt.tuple_int _ _ px hu)
      | str z2 =>
        rw [ry.str_inv] at vy; obtain ⟨ty, rfl⟩ := vy
        exact (SeqAt.EqAt.tuple_str _ _ px hu)
      | lst ds2 =>
        obtain ⟨ay, xsy, rfl, hy1, hy2⟩ := ry.lst_inv; cases vy; obtain ⟨itsy, ry', py, _⟩ := I.list hy1
        exact SeqAt.EqAt.of_refs ((SeqAt.ne_of_list_tuple (s := s) py.isList px).symm) (SeqAt.RcAt.tuple_list px py.isList hu)
      | tup ds2 =>
        obtain ⟨ay, xsy, rfl, hy1, hy2⟩ := ry.tup_sq; cases vy; obtain ⟨itsy, ry', py, _⟩ := I.tuple hy1
        by_cases hab : ax = ay
        · subst hab
          have hxy : ds1 = ds2 := (Dens.inj I (by simp only [depD] at hb; omega) (by simp only [depD] at hb; omega) hx2 (by rw [I.tuple_inj hx1 hy1]; exact hy2))
          subst hxy
          have e1 : eqD (D.tup ds1) (D.tup ds1) = true := eqD_refl _
          rw [e1]
          exact SeqAt.EqAt.same _
        · exact SeqAt.EqAt.of_refs hab (rc_tup I hu px py rx' ry' hx2 hy2 (items_of ih (by simp only [depD] at hd; exact depDs_le.mp (by omega)) (by simp only [depD] at hb; exact ⟨depDs_le.mp (by omega), depDs_le.mp (by omega)⟩) (by omega) hx2 hy2 rx' ry'))
theorem rc_at (I : Inv X pins σ H s) {n : Nat} {A : Around} {dx dy : D} {x y : V} {v u : Value} (hd : depD dx ≤ n + 1) (hb : depD dx ≤ 30 ∧ depD dy ≤ 30) (hu0 : A.units + (n + 1) < cLine) (rx : Den X.K H dx x) (ry : Den X.K H dy y) (vx : RelV x v) (vy : RelV y u) : SeqAt.RcAt A s v u (eqD dx dy) := by
  have hu : A.units < cLine := by omega
  cases dx with
  | dic z1 z2 => exact absurd hb.1 (by simp [depD])
  | non =>
    rw [rx.non_inv] at vx; cases vx
    cases dy with
    | dic z1 z2 => exact absurd hb.2 (by simp [depD])
    | non =>
      rw [ry.non_inv] at vy; cases vy
      exact (SeqAt.RcAt.none_none)
    | bl z2 =>
      rw [ry.bl_inv] at vy; cases vy
      exact (SeqAt.RcAt.none_bool _)
    | int z2 =>
      rw [ry.int_inv] at vy; obtain ⟨ty, rfl⟩ := vy
      exact (SeqAt.RcAt.none_int _ _)
    | str z2 =>
      rw [ry.str_inv] at vy; obtain ⟨ty, rfl⟩ := vy
      exact (SeqAt.RcAt.none_str _ _)
    | lst ds2 =>
      obtain ⟨ay, xsy, rfl, hy1, hy2⟩ := ry.lst_inv; cases vy; obtain ⟨itsy, ry', py, _⟩ := I.list hy1
      exact (SeqAt.RcAt.none_list py.isList hu)
    | tup ds2 =>
      obtain ⟨ay, xsy, rfl, hy1, hy2⟩ := ry.tup_sq; cases vy; obtain ⟨itsy, ry', py, _⟩ := I.tuple hy1
      exact (SeqAt.RcAt.none_tuple py hu)
  | bl z1 =>
    rw [rx.bl_inv] at vx; cases vx
    cases dy with
    | dic z1 z2 => exact absurd hb.2 (by simp [depD])
    | non =>
      rw [ry.non_inv] at vy; cases vy
      exact (SeqAt.RcAt.bool_none _)
    | bl z2 =>
      rw [ry.bl_inv] at vy; cases vy
      exact (SeqAt.RcAt.bool_bool _ _)
    | int z2 =>
      rw [ry.int_inv] at vy; obtain ⟨ty, rfl⟩ := vy
      exact (SeqAt.RcAt.bool_int _ _ _)
    | str z2 =>
      rw [ry.str_inv] at vy; obtain ⟨ty, rfl⟩ := vy
      exact (SeqAt.RcAt.bool_str _ _ _)
    | lst ds2 =>
      obtain ⟨ay, xsy, rfl, hy1, hy2⟩ := ry.lst_inv; cases vy; obtain ⟨itsy, ry', py, _⟩ := I.list hy1
      exact (SeqAt.RcAt.bool_list _ py.isList hu)
    | tup ds2 =>
      obtain ⟨ay, xsy, rfl, hy1, hy2⟩ := ry.tup_sq; cases vy; obtain ⟨itsy, ry', py, _⟩ := I.tuple hy1
      exact (SeqAt.RcAt.bool_tuple _ py hu)
  | int z1 =>
    rw [rx.int_inv] at vx; obtain ⟨tx, rfl⟩ := vx
    cases dy with
    | dic z1 z2 => exact absurd hb.2 (by simp [depD])
    | non =>
      rw [ry.non_inv] at vy; cases vy
      exact (SeqAt.RcAt.int_none _ _)
    | bl z2 =>
      rw [ry.bl_inv] at vy; cases vy
      exact (SeqAt.RcAt.int_bool _ _ _)
    | int z2 =>
      rw [ry.int_inv] at vy; obtain ⟨ty, rfl⟩ := vy
      exact (SeqAt.RcAt.int_int _ _ _ _)
    | str z2 =>
      rw [ry.str_inv] at vy; obtain ⟨ty, rfl⟩ := vy
      exact (SeqAt.RcAt.int_str _ _ _ _)
    | lst ds2 =>
      obtain ⟨ay, xsy, rfl, hy1, hy2⟩ := ry.lst_inv; cases vy; obtain ⟨itsy, ry', py, _⟩ := I.list hy1
      exact (SeqAt.RcAt.int_list _ _ py.isList hu)
    | tup ds2 =>
      obtain ⟨ay, xsy, rfl, hy1, hy2⟩ := ry.tup_sq; cases vy; obtain ⟨itsy, ry', py, _⟩ := I.tuple hy1
      exact (SeqAt.RcAt.int_tuple _ _ py hu)
  | str z1 =>
    rw [rx.str_inv] at vx; obtain ⟨tx, rfl⟩ := vx
    cases dy with
    | dic z1 z2 => exact absurd hb.2 (by simp [depD])
    | non =>
      rw [ry.non_inv] at vy; cases vy
      exact (SeqAt.RcAt.str_none _ _)
    | bl z2 =>
      rw [ry.bl_inv] at vy; cases vy
      exact (SeqAt.RcAt.str_bool _ _ _)
    | int z2 =>
      rw [ry.int_inv] at vy; obtain ⟨ty, rfl⟩ := vy
      exact (SeqAt.RcAt.str_int _ _ _ _)
    | str z2 =>
      rw [ry.str_inv] at vy; obtain ⟨ty, rfl⟩ := vy
      exact (SeqAt.RcAt.str_str _ _ _ _)
    | lst ds2 =>
      obtain ⟨ay, xsy, rfl, hy1, hy2⟩ := ry.lst_inv; cases vy; obtain ⟨itsy, ry', py, _⟩ := I.list hy1
      exact (SeqAt.RcAt.str_list _ _ py.isList hu)
    | tup ds2 =>
      obtain ⟨ay, xsy, rfl, hy1, hy2⟩ := ry.tup_sq; cases vy; obtain ⟨itsy, ry', py, _⟩ := I.tuple hy1
      exact (SeqAt.RcAt.str_tuple _ _ py hu)
  | lst ds1 =>
    obtain ⟨ax, xsx, rfl, hx1, hx2⟩ := rx.lst_inv; cases vx; obtain ⟨itsx, rx', px, _⟩ := I.list hx1
    cases dy with
    | dic z1 z2 => exact absurd hb.2 (by simp [depD])
    | non =>
      rw [ry.non_inv] at vy; cases vy
      exact (SeqAt.RcAt.list_none px.isList hu)
    | bl z2 =>
      rw [ry.bl_inv] at vy; cases vy
      exact (SeqAt.RcAt.list_bool _ px.isList hu)
    | int z2 =>
      rw [ry.int_inv] at vy; obtain ⟨ty, rfl⟩ := vy
      exact (SeqAt.RcAt.list_int _ _ px.isList hu)
    | str z2 =>
      rw [ry.str_inv] at vy; obtain ⟨ty, rfl⟩ := vy
      exact (SeqAt.RcAt.list_str _ _ px.isList hu)
    | lst ds2 =>
      obtain ⟨ay, xsy, rfl, hy1, hy2⟩ := ry.lst_inv; cases vy; obtain ⟨itsy, ry', py, _⟩ := I.list hy1
      exact rc_lst I hu px py rx' ry' hx2 hy2 (items_of (el_at I n) (by simp only [depD] at hd; exact depDs_le.mp (by omega)) (by simp only [depD] at hb; exact ⟨depDs_le.mp (by omega), depDs_le.mp (by omega)⟩) (by omega) hx2 hy2 rx' ry')
    | tup ds2 =>
      obtain ⟨ay, xsy, rfl, hy1, hy2⟩ := ry.tup_sq; cases vy; obtain ⟨itsy, ry', py, _⟩ := I.tuple hy1
      exact (SeqAt.RcAt.list_tuple px.isList py hu)
  | tup ds1 =>
    obtain ⟨ax, xsx, rfl, hx1, hx2⟩ := rx.tup_sq; cases vx; obtain ⟨itsx, rx', px, _⟩ := I.tuple hx1
    cases dy with
    | dic z1 z2 => exact absurd hb.2 (by simp [depD])
    | non =>
      rw [ry.non_inv] at vy; cases vy
      exact (SeqAt.RcAt.tuple_none px hu)
    | bl z2 =>
      rw [ry.bl_inv] at vy; cases vy
      exact (SeqAt.RcAt.tuple_bool _ px hu)
    | int z2 =>
      rw [ry.int_inv] at vy; obtain ⟨ty, rfl⟩ := vy
      exact (SeqAt.RcAt.tuple_int _ _ px hu)
    | str z2 =>
      rw [ry.str_inv] at vy; obtain ⟨ty, rfl⟩ := vy
      exact (SeqAt.RcAt.tuple_str _ _ px hu)
    | lst ds2 =>
      obtain ⟨ay, xsy, rfl, hy1, hy2⟩ := ry.lst_inv; cases vy; obtain ⟨itsy, ry', py, _⟩ := I.list hy1
      exact (SeqAt.RcAt.tuple_list px py.isList hu)
    | tup ds2 =>
      obtain ⟨ay, xsy, rfl, hy1, hy2⟩ := ry.tup_sq; cases vy; obtain ⟨itsy, ry', py, _⟩ := I.tuple hy1
      exact rc_tup I hu px py rx' ry' hx2 hy2 (items_of (el_at I n) (by simp only [depD] at hd; exact depDs_le.mp (by omega)) (by simp only [depD] at hb; exact ⟨depDs_le.mp (by omega), depDs_le.mp (by omega)⟩) (by omega) hx2 hy2 rx' ry')
theorem rn_at (I : Inv X pins σ H s) {n : Nat} {A : Around} {dx dy : D} {x y : V} {v u : Value} (hd : depD dx ≤ n + 1) (hb : depD dx ≤ 30 ∧ depD dy ≤ 30) (hu0 : A.units + (n + 1) < cLine) (rx : Den X.K H dx x) (ry : Den X.K H dy y) (vx : RelV x v) (vy : RelV y u) : SeqAt.RcNeAt A s v u (!eqD dx dy) := by
  have hu : A.units < cLine := by omega
  cases dx with
  | dic z1 z2 => exact absurd hb.1 (by simp [depD])
  | non =>
    rw [rx.non_inv] at vx; cases vx
    cases dy with
    | dic z1 z2 => exact absurd hb.2 (by simp [depD])
    | non =>
      rw [ry.non_inv] at vy; cases vy
      exact (SeqAt.RcNeAt.none_none)
    | bl z2 =>
      rw [ry.bl_inv] at vy; cases vy
      exact (SeqAt.RcNeAt.none_bool _)
    | int z2 =>
      rw [ry.int_inv] at vy; obtain ⟨ty, rfl⟩ := vy
      exact (SeqAt.RcNeAt.none_int _ _)
    | str z2 =>
      rw [ry.str_inv] at vy; obtain ⟨ty, rfl⟩ := vy
      exact (SeqAt.RcNeAt.none_str _ _)
    | lst ds2 =>
      obtain ⟨ay, xsy, rfl, hy1, hy2⟩ := ry.lst_inv; cases vy; obtain ⟨itsy, ry', py, _⟩ := I.list hy1
      exact (SeqAt.RcNeAt.none_list py.isList hu)
    | tup ds2 =>
      obtain ⟨ay, xsy, rfl, hy1, hy2⟩ := ry.tup_sq; cases vy; obtain ⟨itsy, ry', py, _⟩ := I.tuple hy1
      exact (SeqAt.RcNeAt.none_tuple py hu)
  | bl z1 =>
    rw [rx.bl_inv] at vx; cases vx
    cases dy with
    | dic z1 z2 => exact absurd hb.2 (by simp [depD])
    | non =>
      rw [ry.non_inv] at vy; cases vy
      exact (SeqAt.RcNeAt.bool_none _)
    | bl z2 =>
      rw [ry.bl_inv] at vy; cases vy
      exact (SeqAt.RcNeAt.bool_bool _ _)
    | int z2 =>
      rw [ry.int_inv] at vy; obtain ⟨ty, rfl⟩ := vy
      exact (SeqAt.RcNeAt.bool_int _ _ _)
    | str z2 =>
      rw [ry.str_inv] at vy; obtain ⟨ty, rfl⟩ := vy
      exact (SeqAt.RcNeAt.bool_str _ _ _)
    | lst ds2 =>
      obtain ⟨ay, xsy, rfl, hy1, hy2⟩ := ry.lst_inv; cases vy; obtain ⟨itsy, ry', py, _⟩ := I.list hy1
      exact (SeqAt.RcNeAt.bool_list _ py.isList hu)
    | tup ds2 =>
      obtain ⟨ay, xsy, rfl, hy1, hy2⟩ := ry.tup_sq; cases vy; obtain ⟨itsy, ry', py, _⟩ := I.tuple hy1
      exact (SeqAt.RcNeAt.bool_tuple _ py hu)
  | int z1 =>
    rw [rx.int_inv] at vx; obtain ⟨tx, rfl⟩ := vx
    cases dy with
    | dic z1 z2 => exact absurd hb.2 (by simp [depD])
    | non =>
      rw [ry.non_inv] at vy; cases vy
      exact (SeqAt.RcNeAt.int_none _ _)
    | bl z2 =>
      rw [ry.bl_inv] at vy; cases vy
      exact (SeqAt.RcNeAt.int_bool _ _ _)
    | int z2 =>
      rw [ry.int_inv] at vy; obtain ⟨ty, rfl⟩ := vy
      exact (SeqAt.RcNeAt.int_int _ _ _ _)
    | str z2 =>
      rw [ry.str_inv] at vy; obtain ⟨ty, rfl⟩ := vy
      exact (SeqAt.RcNeAt.int_str _ _ _ _)
    | lst ds2 =>
      obtain ⟨ay, xsy, rfl, hy1, hy2⟩ := ry.lst_inv; cases vy; obtain ⟨itsy, ry', py, _⟩ := I.list hy1
      exact (SeqAt.RcNeAt.int_list _ _ py.isList hu)
    | tup ds2 =>
      obtain ⟨ay, xsy, rfl, hy1, hy2⟩ := ry.tup_sq; cases vy; obtain ⟨itsy, ry', py, _⟩ := I.tuple hy1
      exact (SeqAt.RcNeAt.int_tuple _ _ py hu)
  | str z1 =>
    rw [rx.str_inv] at vx; obtain ⟨tx, rfl⟩ := vx
    cases dy with
    | dic z1 z2 => exact absurd hb.2 (by simp [depD])
    | non =>
      rw [ry.non_inv] at vy; cases vy
      exact (SeqAt.RcNeAt.str_none _ _)
    | bl z2 =>
      rw [ry.bl_inv] at vy; cases vy
      exact (SeqAt.RcNeAt.str_bool _ _ _)
    | int z2 =>
      rw [ry.int_inv] at vy; obtain ⟨ty, rfl⟩ := vy
      exact (SeqAt.RcNeAt.str_int _ _ _ _)
    | str z2 =>
      rw [ry.str_inv] at vy; obtain ⟨ty, rfl⟩ := vy
      exact (SeqAt.RcNeAt.str_str _ _ _ _)
    | lst ds2 =>
      obtain ⟨ay, xsy, rfl, hy1, hy2⟩ := ry.lst_inv; cases vy; obtain ⟨itsy, ry', py, _⟩ := I.list hy1
      exact (SeqAt.RcNeAt.str_list _ _ py.isList hu)
    | tup ds2 =>
      obtain ⟨ay, xsy, rfl, hy1, hy2⟩ := ry.tup_sq; cases vy; obtain ⟨itsy, ry', py, _⟩ := I.tuple hy1
      exact (SeqAt.RcNeAt.str_tuple _ _ py hu)
  | lst ds1 =>
    obtain ⟨ax, xsx, rfl, hx1, hx2⟩ := rx.lst_inv; cases vx; obtain ⟨itsx, rx', px, _⟩ := I.list hx1
    cases dy with
    | dic z1 z2 => exact absurd hb.2 (by simp [depD])
    | non =>
      rw [ry.non_inv] at vy; cases vy
      exact (SeqAt.RcNeAt.list_none px.isList hu)
    | bl z2 =>
      rw [ry.bl_inv] at vy; cases vy
      exact (SeqAt.RcNeAt.list_bool _ px.isList hu)
    | int z2 =>
      rw [ry.int_inv] at vy; obtain ⟨ty, rfl⟩ := vy
      exact (SeqAt.RcNeAt.list_int _ _ px.isList hu)
    | str z2 =>
      rw [ry.str_inv] at vy; obtain ⟨ty, rfl⟩ := vy
      exact (SeqAt.RcNeAt.list_str _ _ px.isList hu)
    | lst ds2 =>
      obtain ⟨ay, xsy, rfl, hy1, hy2⟩ := ry.lst_inv; cases vy; obtain ⟨itsy, ry', py, _⟩ := I.list hy1
      exact rn_lst I hu px py rx' ry' hx2 hy2 (items_of (el_at I n) (by simp only [depD] at hd; exact depDs_le.mp (by omega)) (by simp only [depD] at hb; exact ⟨depDs_le.mp (by omega), depDs_le.mp (by omega)⟩) (by omega) hx2 hy2 rx' ry')
    | tup ds2 =>
      obtain ⟨ay, xsy, rfl, hy1, hy2⟩ := ry.tup_sq; cases vy; obtain ⟨itsy, ry', py, _⟩ := I.tuple hy1
      exact (SeqAt.RcNeAt.list_tuple px.isList py hu)
  | tup ds1 =>
    obtain ⟨ax, xsx, rfl, hx1, hx2⟩ := rx.tup_sq; cases vx; obtain ⟨itsx, rx', px, _⟩ := I.tuple hx1
    cases dy with
    | dic z1 z2 => exact absurd hb.2 (by simp [depD])
    | non =>
      rw [ry.non_inv] at vy; cases vy
      exact (SeqAt.RcNeAt.tuple_none px hu)
    | bl z2 =>
      rw [ry.bl_inv] at vy; cases vy
      exact (SeqAt.RcNeAt.tuple_bool _ px hu)
    | int z2 =>
      rw [ry.int_inv] at vy; obtain ⟨ty, rfl⟩ := vy
      exact (SeqAt.RcNeAt.tuple_int _ _ px hu)
    | str z2 =>
      rw [ry.str_inv] at vy; obtain ⟨ty, rfl⟩ := vy
      exact (SeqAt.RcNeAt.tuple_str _ _ px hu)
    | lst ds2 =>
      obtain ⟨ay, xsy, rfl, hy1, hy2⟩ := ry.lst_inv; cases vy; obtain ⟨itsy, ry', py, _⟩ := I.list hy1
      exact (SeqAt.RcNeAt.tuple_list px py.isList hu)
    | tup ds2 =>
      obtain ⟨ay, xsy, rfl, hy1, hy2⟩ := ry.tup_sq; cases vy; obtain ⟨itsy, ry', py, _⟩ := I.tuple hy1
      exact rn_tup I hu px py rx' ry' hx2 hy2 (items_of (el_at I n) (by simp only [depD] at hd; exact depDs_le.mp (by omega)) (by simp only [depD] at hb; exact ⟨depDs_le.mp (by omega), depDs_le.mp (by omega)⟩) (by omega) hx2 hy2 rx' ry')
end
end DL

set_option Elab.async false
set_option linter.all false
set_option maxRecDepth 100000
namespace DL
open PySem PySem.Spec PyProof.Rows L2
section
variable {X : Cx} {a b c e : Expr} {es : List Expr} {ma mb mc md me : ME} {pos p p2 p3 : Pos}

/-! ### == != in -/
theorem od_eq (hu : X.A.units + 64 < cLine) : OpD X (compareOp .Eq) oEq := by
  refine ⟨fun x y H Q => ∃ dx dy, Den X.K H dx x ∧ Den X.K H dy y ∧ (depD dx ≤ 30 ∧ depD dy ≤ 30) ∧ Q (.bl (eqD dx dy)) H, ?_, fun os H L dx dy d x y Q rx ry m k => ?_⟩
  · intro pins s σ H x y v u Q I rx ry h
    obtain ⟨dx, dy, d1, d2, hd, q⟩ := h
    exact rc_at (n := 30) I (Nat.le_succ_of_le hd.1) hd (by omega) d1 d2 rx ry X.prog X.w X.xe _ ⟨.bl _, H, I, rfl, q⟩
  · unfold oEq at m
    split at m
    · rename_i hd
      cases m
      exact ⟨dx, dy, rx.up, ry.up, hd, k _ H (Same.refl _) (.bl _)⟩
    · cases m
theorem od_ne (hu : X.A.units + 64 < cLine) : OpD X (compareOp .NotEq) oNe := by
  refine ⟨fun x y H Q => ∃ dx dy, Den X.K H dx x ∧ Den X.K H dy y ∧ (depD dx ≤ 30 ∧ depD dy ≤ 30) ∧ Q (.bl (!eqD dx dy)) H, ?_, fun os H L dx dy d x y Q rx ry m k => ?_⟩
  · intro pins s σ H x y v u Q I rx ry h
    obtain ⟨dx, dy, d1, d2, hd, q⟩ := h
    exact rn_at (n := 30) I (Nat.le_succ_of_le hd.1) hd (by omega) d1 d2 rx ry X.prog X.w X.xe _ ⟨.bl _, H, I, rfl, q⟩
  · unfold oNe at m
    split at m
    · rename_i hd
      cases m
      exact ⟨dx, dy, rx.up, ry.up, hd, k _ H (Same.refl _) (.bl _)⟩
    · cases m
open Classical in
/-- == with dx, by the value alone -/
noncomputable def eqVal (K : PySem.W.Frag) (H : Hp) (dx : D) (u : Value) : Bool := if h : ∃ d v, (RelV v u ∧ depD d ≤ 30) ∧ Den K H d v then eqD (Classical.choose h) dx else false
theorem eqVal_of {pins : List (Addr × Obj)} {σ : L2.St} {H : Hp} {s : Shared} (I : Inv X pins σ H s) {dx d : D} {v : V} {u : Value} (r : RelV v u) (hd : depD d ≤ 30) (h : Den X.K H d v) : eqVal X.K H dx u = eqD d dx := by
  have hx : ∃ d v, (RelV v u ∧ depD d ≤ 30) ∧ Den X.K H d v := ⟨d, v, ⟨r, hd⟩, h⟩
  unfold eqVal
  rw [dif_pos hx]
  obtain ⟨v', ⟨r', hd'⟩, h'⟩ := Classical.choose_spec hx
  rw [RelV.inj r' r] at h'
  rw [Den.inj I hd' hd h' h]
theorem any_eqVal {pins : List (Addr × Obj)} {σ : L2.St} {H : Hp} {s : Shared} (I : Inv X pins σ H s) {dx : D} : ∀ {ds : List D} {xs : List V} {us : List Value}, (∀ d ∈ ds, depD d ≤ 30) → Dens X.K H ds xs → Vals xs us → us.any (eqVal X.K H dx) = ds.any fun y => eqD y dx
  | [], _, _, _, h, r => by rw [h.unnil] at r; cases r; rfl
  | d :: ds, _, _, hd, h, r => by
    obtain ⟨x, t, rfl, h1, h2⟩ := h.uncons
    cases r with
    | cons r1 r2 => rw [List.any_cons, List.any_cons, eqVal_of I r1 (hd d List.mem_cons_self) h1, any_eqVal I (fun d' h' => hd d' (List.mem_cons_of_mem _ h')) h2 r2]
theorem mem_eqVal {A : Around} {pins : List (Addr × Obj)} {σ : L2.St} {H : Hp} {s : Shared} (I : Inv X pins σ H s) (hu : A.units + 40 < cLine) {dx : D} {x : V} {v : Value} (rx : RelV x v) (hx : Den X.K H dx x) (hxd : depD dx ≤ 30) : ∀ {ds : List D} {xs : List V} {us : List Value}, (∀ d ∈ ds, depD d ≤ 30) → Dens X.K H ds xs → Vals xs us → ∀ u ∈ us, SeqAt.EqAt A s u v (eqVal X.K H dx u)
  | [], _, _, _, h, r => fun u hm => by rw [h.unnil] at r; cases r; cases hm
  | d :: ds, _, _, hd, h, r => fun u hm => by
    obtain ⟨y, t, rfl, h1, h2⟩ := h.uncons
    cases r with
    | cons r1 r2 =>
      rcases List.mem_cons.mp hm with rfl | hm
      · rw [eqVal_of I r1 (hd d List.mem_cons_self) h1]
        exact el_at I 30 A d dx y x u v (hd d List.mem_cons_self) ⟨hd d List.mem_cons_self, hxd⟩ (by omega) h1 hx r1 rx
      · exact mem_eqVal I hu rx hx hxd (fun d' h' => hd d' (List.mem_cons_of_mem _ h')) h2 r2 u hm
theorem od_in (hu : X.A.units + 64 < cLine) : OpD X (compareOp .In) oIn := by
  have hu1 : X.A.in1.units + 40 < cLine := by show X.A.units + 1 + 40 < cLine; omega
  refine ⟨fun x y H Q => (∃ i j, x = V.str i ∧ y = V.str j ∧ Q (.bl (!(Builtin.Str.occurrences j i 0 j.length 1).isEmpty)) H) ∨ ∃ dx p ds xs, Den X.K H dx x ∧ y = .ref p ∧ (SqL X.K H p xs ∨ SqT X.K H p xs) ∧ Dens X.K H ds xs ∧ (depDs ds ≤ 30 ∧ depD dx ≤ 30) ∧ Q (.bl (ds.any fun y => eqD y dx)) H, ?_, fun os H L dx dy d x y Q rx ry m k => ?_⟩
  · intro pins s σ H x y v u Q I rx ry h
    rcases h with h | h
    · exact op_in_str pins s σ H x y v u Q I rx ry h
    obtain ⟨dx, p, ds, xs, hx, rfl, hq, hs, hd, q⟩ := h
    cases ry
    have hd' := depDs_le.mp hd.1
    rcases hq with hq | hq
    · obtain ⟨its, r, pl, hz⟩ := I.list hq
      refine SeqAt.in_listAt (eqVal X.K H dx) pl.isList (fun w hw => mem_eqVal I hu1 rx hx hd.2 hd' hs r w (by simpa using hw)) ⟨.bl _, H, I, rfl, ?_⟩
      rw [show its.toArray.any (eqVal X.K H dx) = its.any (eqVal X.K H dx) by simp, any_eqVal I hd' hs r]
      exact q
    · obtain ⟨its, r, pl, hz⟩ := I.tuple hq
      refine SeqAt.in_tupleAt (eqVal X.K H dx) pl (fun w hw => mem_eqVal I hu1 rx hx hd.2 hd' hs r w (by simpa using hw)) ⟨.bl _, H, I, rfl, ?_⟩
      rw [show its.toArray.any (eqVal X.K H dx) = its.any (eqVal X.K H dx) by simp, any_eqVal I hd' hs r]
      exact q
  · cases dy with
    | tup ys =>
      have m' : (if depDs ys ≤ 30 ∧ depD dx ≤ 30 then some (D.bl (ys.any fun y => eqD y dx)) else none) = some d := m
      split at m'
      · rename_i hd
        cases m'
        obtain ⟨p, xs, rfl, h1, h2⟩ := ry.tup_up
        exact .inr ⟨dx, p, ys, xs, rx.up, rfl, .inr h1, h2.up, hd, k _ H (Same.refl _) (.bl _)⟩
      · cases m'
    | lst ys =>
      have m' : (if depDs ys ≤ 30 ∧ depD dx ≤ 30 then some (D.bl (ys.any fun y => eqD y dx)) else none) = some d := m
      split at m'
      · rename_i hd
        cases m'
        obtain ⟨p, xs, rfl, h1, h2⟩ := ry.lst_up
        exact .inr ⟨dx, p, ys, xs, rx.up, rfl, .inl h1, h2.up, hd, k _ H (Same.refl _) (.bl _)⟩
      · cases m'
    | str y =>
      cases dx with
      | str x => cases m; exact .inl ⟨x, y, rx.str_inv, ry.str_inv, k _ H (Same.refl _) (.bl _)⟩
      | _ => cases m
    | _ => cases dx <;> cases m
/-! ### is True, is False -/
def isB (c : Bool) : D → Bool
  | .bl b => b == c
  | _ => false
theorem uIs_eq (c : Bool) (d : D) : uIs c d = some (.bl (isB c d)) := by cases d <;> rfl
theorem uIsNot_eq (c : Bool) (d : D) : uIsNot c d = some (.bl (!isB c d)) := by unfold uIsNot; rw [uIs_eq]; rfl
theorem is_val {K : PySem.W.Frag} {H : Hp} {d : D} {x : V} {v : Value} {c : Bool} (h : Den K H d x) (r : RelV x v) : plainIs v (.bool c) = true ∧ (v == .bool c) = isB c d := by
  cases d with
  | non => rw [h.non_inv] at r; cases r; exact ⟨rfl, rfl⟩
  | bl b => rw [h.bl_inv] at r; cases r; refine ⟨rfl, ?_⟩; cases b <;> cases c <;> rfl
  | int i => rw [h.int_inv] at r; obtain ⟨t, rfl⟩ := r; exact ⟨rfl, rfl⟩
  | str i => rw [h.str_inv] at r; obtain ⟨t, rfl⟩ := r; exact ⟨rfl, rfl⟩
  | tup ds => obtain ⟨a, xs, rfl, _⟩ := h.tup_inv; cases r; exact ⟨rfl, rfl⟩
  | lst ds => obtain ⟨a, xs, rfl, _⟩ := h.lst_inv; cases r; exact ⟨rfl, rfl⟩
  | dic ks ds => obtain ⟨a, xs, rfl, _⟩ := h.dic_inv; cases r; exact ⟨rfl, rfl⟩
def rIs (K : PySem.W.Frag) (neg : Bool) : R2 := fun x y H Q => ∃ d c, Den K H d x ∧ y = .bl c ∧ Q (.bl (if neg then !isB c d else isB c d)) H
theorem op_isB : OpR X (compareOp .Is) (rIs X.K false) := by
  intro pins s σ H x y v u Q I rx ry h
  obtain ⟨d, c, hd, rfl, q⟩ := h
  cases ry
  obtain ⟨h1, h2⟩ := is_val (c := c) hd rx
  exact wpAny_is_plain h1 ⟨.bl _, H, I, by rw [h2]; rfl, q⟩
theorem op_isnotB : OpR X (compareOp .IsNot) (rIs X.K true) := by
  intro pins s σ H x y v u Q I rx ry h
  obtain ⟨d, c, hd, rfl, q⟩ := h
  cases ry
  obtain ⟨h1, h2⟩ := is_val (c := c) hd rx
  exact wpAny_isNot_plain h1 ⟨.bl _, H, I, by rw [h2]; rfl, q⟩
theorem de_is {k : Bool} {j : Nat} (ha : DE X a ma) : DE X (.Compare a [.Is] [.Constant (.bool k) j p2] pos) (eUn (uIs k) ma) := by
  obtain ⟨ta, pa, qa⟩ := ha
  refine ⟨_, pe_cmpR op_isB pa pe_bl (nomark _), fun os σ H δ d Q s m kq => ?_⟩
  obtain ⟨dx, e1, m⟩ := bind_inv m
  rw [uIs_eq] at m
  cases m
  exact qa os σ H δ dx _ s e1 fun x H1 g1 r1 => ⟨dx, k, r1.up, rfl, kq _ H1 g1 (.bl _)⟩
theorem de_isnot {k : Bool} {j : Nat} (ha : DE X a ma) : DE X (.Compare a [.IsNot] [.Constant (.bool k) j p2] pos) (eUn (uIsNot k) ma) := by
  obtain ⟨ta, pa, qa⟩ := ha
  refine ⟨_, pe_cmpR op_isnotB pa pe_bl (nomark _), fun os σ H δ d Q s m kq => ?_⟩
  obtain ⟨dx, e1, m⟩ := bind_inv m
  rw [uIsNot_eq] at m
  cases m
  exact qa os σ H δ dx _ s e1 fun x H1 g1 r1 => ⟨dx, k, r1.up, rfl, kq _ H1 g1 (.bl _)⟩
theorem dt_is {k : Bool} {j : Nat} (ha : DE X a ma) : DT X (.Compare a [.Is] [.Constant (.bool k) j p2] pos) (tV (eUn (uIs k) ma)) := by
  obtain ⟨ta, pa, qa⟩ := ha
  refine ⟨_, pt_cmpR op_isB pa pe_bl (nomark _), fun os σ H δ z Q s m kq => ?_⟩
  obtain ⟨d, m1, m2⟩ := bind_inv m
  obtain ⟨dx, e1, m1⟩ := bind_inv m1
  rw [uIs_eq] at m1
  cases m1
  cases m2
  exact qa os σ H δ dx _ s e1 fun x H1 g1 r1 => ⟨dx, k, r1.up, rfl, _, rfl, kq H1 g1⟩
theorem dt_isnot {k : Bool} {j : Nat} (ha : DE X a ma) : DT X (.Compare a [.IsNot] [.Constant (.bool k) j p2] pos) (tV (eUn (uIsNot k) ma)) := by
  obtain ⟨ta, pa, qa⟩ := ha
  refine ⟨_, pt_cmpR op_isnotB pa pe_bl (nomark _), fun os σ H δ z Q s m kq => ?_⟩
  obtain ⟨d, m1, m2⟩ := bind_inv m
  obtain ⟨dx, e1, m1⟩ := bind_inv m1
  rw [uIsNot_eq] at m1
  cases m1
  cases m2
  exact qa os σ H δ dx _ s e1 fun x H1 g1 r1 => ⟨dx, k, r1.up, rfl, _, rfl, kq H1 g1⟩
/-! ### isinstance -/
def tyN : Ty → String
  | .int => "int" | .bool => "bool" | .str => "str" | .list => "list" | .tuple => "tuple"
theorem call_isi (t : Ty) : CallR X (.builtin "isinstance") (fun xs H Q => ∃ x d, xs = [x, .ty (tyN t)] ∧ Den X.K H d x ∧ Q (.bl (isI t d)) H) := by
  intro pins s σ H xs us Q I r h
  obtain ⟨x, d, rfl, hd, q⟩ := h
  obtain ⟨u, w', rfl, rx, rw'⟩ := vals2 r
  cases rw'
  have fin : ∀ tk, EP X pins σ Q (.bool (isI t d)) { s with toks := tk } := fun tk => ⟨.bl _, H, I.tok tk, rfl, q⟩
  cases d with
  | non =>
    rw [hd.non_inv] at rx; cases rx
    cases t <;> exact PySem.W.kia_one PySem.W.kitx_none I.kIn True.intro (by rfl) (fun z => nomatch z) fin
  | bl z =>
    rw [hd.bl_inv] at rx; cases rx
    cases t <;> exact PySem.W.kia_one PySem.W.kitx_bool I.kIn True.intro (by rfl) (fun z => nomatch z) fin
  | int z =>
    rw [hd.int_inv] at rx; obtain ⟨tt, rfl⟩ := rx
    cases t <;> exact PySem.W.kia_one PySem.W.kitx_int I.kIn True.intro (by rfl) (fun z => nomatch z) fin
  | str z =>
    rw [hd.str_inv] at rx; obtain ⟨tt, rfl⟩ := rx
    cases t <;> exact PySem.W.kia_one PySem.W.kitx_str I.kIn True.intro (by rfl) (fun z => nomatch z) fin
  | tup ds =>
    obtain ⟨aa, xs, rfl, h1, _⟩ := hd.tup_sq; cases rx
    obtain ⟨its, _, ⟨o, e1, e2, _⟩, _⟩ := I.tuple h1
    cases t <;> exact PySem.W.kia_one PySem.W.kitx_tuple I.kIn ⟨o, e1, e2⟩ (by rfl) (fun z => nomatch z) fin
  | lst ds =>
    obtain ⟨aa, xs, rfl, h1, _⟩ := hd.lst_inv; cases rx
    obtain ⟨its, _, ⟨o, n, e1, e2, _⟩, _⟩ := I.list h1
    cases t <;> exact PySem.W.kia_one PySem.W.kitx_list I.kIn ⟨o, e1, e2⟩ (by rfl) (fun z => nomatch z) fin
  | dic ks ds =>
    obtain ⟨aa, xs, rfl, h1, _⟩ := hd.dic_inv; cases rx
    have z : ∃ o, s.heap.get? aa = some o ∧ o.cls = .type "dict" := by
      rcases h1 with ⟨kvs, h1, _⟩ | ⟨kvs, h1, _⟩
      · obtain ⟨_, _, _, _, o, _, _, e, ex, _⟩ := I.hok aa _ h1
        exact ⟨o, e, ex.1⟩
      · obtain ⟨_, _, _, _, o, _, _, e, ex, _⟩ := I.hok aa _ h1
        exact ⟨o, e, ex.1⟩
    cases t <;> exact PySem.W.kia_one PySem.W.kitx_dict I.kIn z (by rfl) (fun z => nomatch z) fin
theorem de_isi (t : Ty) {tn : Str} (hg : Gl X "isinstance") (hm : X.mg "isinstance" = none) (hgT : Gl X tn) (hmT : X.mg tn = none) (hv : bootBuiltins tn = some (.type (tyN t))) (ha : DE X a ma) (hn : tn ≠ "__name__" := by decide) (hd : (tn == ("__debug__" : Str)) = false := by decide)
    (h1 : starEach [a, .Name tn p2] X.env = (false, eval a X.env) :: starEach [.Name tn p2] X.env := by rfl) (h2 : starEach [.Name tn p2] X.env = (false, eval (.Name tn p2) X.env) :: starEach [] X.env := by rfl)
    (hpl : (backTo pos (starEach [.Name tn p2] X.env)).any (·.1) = false := by rfl) :
    DE X (.Call (.Name "isinstance" p) [a, .Name tn p2] [] pos) (eCall (fIs t) (aCons ma aNil)) := by
  obtain ⟨ta, pa, qa⟩ := ha
  have hT : PE X (.Name tn p2) (L2.tC (.ty (tyN t))) := pe_bltn hgT hmT hv rfl hn hd
  refine ⟨_, pe_callB (call_isi t) hg hm (by rfl) (pa_cons pa (pa_cons hT pa_nil h2) h1) (by decide) (by decide) h1 hpl, fun os σ H δ d Q s m kq => ?_⟩
  rw [call1] at m
  obtain ⟨dx, e1, m⟩ := bind_inv m
  cases m
  exact qa os σ H δ dx _ s e1 fun x H1 g1 r1 => ⟨x, dx, rfl, r1.up, kq _ H1 g1 (.bl _)⟩
/-! ### len, abs, list, tuple, all -/
theorem one_of {K : PySem.W.Frag} {H : Hp} {d : D} {vs : List V} (h : Dens K H [d] vs) : ∃ v, vs = [v] ∧ Den K H d v := by
  obtain ⟨x, r, rfl, h1, h2⟩ := h.uncons
  exact ⟨x, by rw [h2.unnil], h1⟩
theorem callR_or {f : Value} {r r' : List V → Hp → VK → Prop} (a : CallR X f r) (b : CallR X f r') : CallR X f (fun xs H Q => r xs H Q ∨ r' xs H Q) := fun pins s σ H xs us Q I rel h => by
  rcases h with h | h
  · exact a pins s σ H xs us Q I rel h
  · exact b pins s σ H xs us Q I rel h
theorem cd_len : CallD X (.builtin "len") fLen := by
  refine ⟨_, callR_or call_len_seq call_len_str, fun os H L ds d vs Q r m k => ?_⟩
  match ds, m with
  | [.tup xs], m =>
    cases m
    obtain ⟨v, rfl, h⟩ := one_of r
    obtain ⟨p, ys, rfl, h1, h2⟩ := h.tup_up
    exact .inl ⟨p, ys, rfl, .inr h1, by rw [← h2.length]; exact k _ H (Same.refl _) (.int _)⟩
  | [.lst xs], m =>
    cases m
    obtain ⟨v, rfl, h⟩ := one_of r
    obtain ⟨p, ys, rfl, h1, h2⟩ := h.lst_up
    exact .inl ⟨p, ys, rfl, .inl h1, by rw [← h2.length]; exact k _ H (Same.refl _) (.int _)⟩
  | [.str x], m =>
    have m' : (if x.length ≤ 16777216 then some (D.int x.length) else none) = some d := m
    split at m'
    · rename_i hz
      cases m'
      obtain ⟨v, rfl, h⟩ := one_of r
      exact .inr ⟨x, by rw [h.str_inv], by rw [lim_eq]; exact hz, k _ H (Same.refl _) (.int _)⟩
    · cases m'
theorem cd_str : CallD X (.type "str") fStr := by
  refine ⟨_, call_str_int, fun os H L ds d vs Q r m k => ?_⟩
  match ds, m with
  | [.int i], m =>
    have m' : (if i.natAbs.log2 < 1920 then some (D.str (toString i)) else none) = some d := m
    split at m'
    · rename_i hz
      cases m'
      obtain ⟨v, rfl, h⟩ := one_of r
      exact ⟨i, by rw [h.int_inv], hz, k _ H (Same.refl _) (.str _)⟩
    · cases m'
theorem cd_abs : CallD X (.builtin "abs") fAbs := by
  refine ⟨_, call_abs, fun os H L ds d vs Q r m k => ?_⟩
  match ds, m with
  | [.int i], m =>
    cases m
    obtain ⟨v, rfl, h⟩ := one_of r
    exact ⟨i, by rw [h.int_inv], k _ H (Same.refl _) (.int _)⟩
theorem cd_list : CallD X (.type "list") fList := by
  refine ⟨_, call_list_of, fun os H L ds d vs Q r m k => ?_⟩
  match ds, m with
  | [.tup xs], m =>
    cases m
    obtain ⟨v, rfl, h⟩ := one_of r
    obtain ⟨p, ys, rfl, h1, h2⟩ := h.tup_up
    refine ⟨p, ys, rfl, .inr h1, fun l hl => ?_⟩
    exact k _ _ (same_new hl (.lst ys)) (.newL L hl h2)
  | [.lst xs], m =>
    cases m
    obtain ⟨v, rfl, h⟩ := one_of r
    obtain ⟨p, ys, rfl, h1, h2⟩ := h.lst_up
    refine ⟨p, ys, rfl, .inl h1, fun l hl => ?_⟩
    exact k _ _ (same_new hl (.lst ys)) (.newL L hl h2)
theorem cd_tuple : CallD X (.type "tuple") fTuple := by
  refine ⟨_, call_tuple_of, fun os H L ds d vs Q r m k => ?_⟩
  match ds, m with
  | [.tup xs], m =>
    cases m
    obtain ⟨v, rfl, h⟩ := one_of r
    obtain ⟨p, ys, rfl, h1, h2⟩ := h.tup_up
    exact ⟨p, ys, rfl, .inr ⟨h1, k _ H (Same.refl _) h⟩⟩
  | [.lst xs], m =>
    cases m
    obtain ⟨v, rfl, h⟩ := one_of r
    obtain ⟨p, ys, rfl, h1, h2⟩ := h.lst_up
    refine ⟨p, ys, rfl, .inl ⟨h1, fun l hl => ?_⟩⟩
    exact k _ _ (same_new hl (.tup ys)) (.newT L hl h2)
theorem call_allL (hc : X.calm = true) : CallR X (.builtin "all") (fun xs H Q => ∃ (p : Addr) (bs : List Bool), xs = [.ref p] ∧ SqL X.K H p (bs.map V.bl) ∧ Q (.bl (bs.all id)) H) := by
  intro pins s σ H xs us Q I r h
  obtain ⟨p, bs, rfl, hq, q⟩ := h
  obtain ⟨u, rfl, ru⟩ := vals1 r
  cases ru
  obtain ⟨its, rv, pl, hz⟩ := I.list hq
  have hlen : its.length = bs.length := by rw [← rv.length, List.length_map]
  have hne : p ≠ s.heap.objs.size := fun e => by
    obtain ⟨o, ho, _⟩ := pl.isList
    rw [e] at ho
    exact absurd (Heap.lt_size ho) (Nat.lt_irrefl _)
  refine call_all_walk (wpAny_pyIter_list pl.isList ?_)
  refine ⟨s.heap.objs.size, _, _, _, _, _, fun i => (bs[i]?).getD true, rfl, Walks.list (A := X.A.in1) (I.ok.hd hc) s.heap.objs.size p hne its.toArray, ⟨⟨_, Heap.get?_push_size _ rfl, rfl, rfl⟩, ?_⟩, ?_, fun h' tk hk => ?_⟩
  · obtain ⟨o, ho, rr⟩ := pl.isList
    exact ⟨o, Heap.get?_push_of_some _ ho, rr⟩
  · intro i v s' Q' E' hP hQ
    have hv : its[i]? = some v := by simpa using hP
    have hi : i < its.length := (List.getElem?_eq_some_iff.mp hv).1
    have hb : (bs.map V.bl)[i]? = some (.bl bs[i]) := by rw [List.getElem?_map, List.getElem?_eq_getElem (by omega)]; rfl
    obtain ⟨u', hu', ru'⟩ := rv.get hb
    rw [hv] at hu'
    cases hu'
    cases ru'
    have : (bs[i]?).getD true = bs[i] := by rw [List.getElem?_eq_getElem (by omega)]; rfl
    have hQ' : Q' ((bs[i]?).getD true) s' := hQ
    rw [this] at hQ'
    exact wpAny_truthy_bool hQ'
  · have I1 : Inv X pins σ H { s with heap := h', toks := tk } := I.kept fun b o e => hk b o (by
      intro z
      have z' : b = s.heap.objs.size := by simpa using z
      rw [z'] at e
      exact absurd (Heap.lt_size e) (Nat.lt_irrefl _)) (Heap.get?_push_of_some _ e)
    refine ⟨.bl _, H, I1, ?_, q⟩
    have e1 : (List.range its.toArray.size).all (fun i => (bs[i]?).getD true) = bs.all id := by
      rw [List.size_toArray, hlen, Bool.eq_iff_iff, List.all_eq_true, List.all_eq_true]
      constructor
      · intro hall z hz'
        obtain ⟨i, hi, rfl⟩ := List.getElem_of_mem hz'
        have := hall i (List.mem_range.mpr hi)
        rw [List.getElem?_eq_getElem hi] at this
        exact this
      · intro hall i hi
        have hi' := List.mem_range.mp hi
        rw [List.getElem?_eq_getElem hi']
        exact hall _ (List.getElem_mem hi')
    show Value.bool _ = Value.bool _
    rw [e1]
theorem allB_inv : ∀ {ds : List D} {k : Bool}, allB ds = some k → ∃ bs : List Bool, ds = bs.map D.bl ∧ k = bs.all id
  | [], k, h => by cases h; exact ⟨[], rfl, rfl⟩
  | .bl b :: r, k, h => by
    obtain ⟨k', e, h⟩ := bind_inv h
    cases h
    obtain ⟨bs, rfl, rfl⟩ := allB_inv e
    exact ⟨b :: bs, rfl, rfl⟩
  | .non :: r, _, h => by cases h
  | .int _ :: r, _, h => by cases h
  | .str _ :: r, _, h => by cases h
  | .tup _ :: r, _, h => by cases h
  | .lst _ :: r, _, h => by cases h
theorem dens_bls {K : PySem.W.Frag} {H : Hp} : ∀ {bs : List Bool} {xs : List V}, Dens K H (bs.map D.bl) xs → xs = bs.map V.bl
  | [], _, h => h.unnil
  | b :: bs, _, h => by
    obtain ⟨x, r, rfl, h1, h2⟩ := h.uncons
    rw [h1.bl_inv, dens_bls h2]
    rfl
theorem cd_all (hc : X.calm = true) : CallD X (.builtin "all") fAll := by
  refine ⟨_, call_allL hc, fun os H L ds d vs Q r m k => ?_⟩
  match ds, m with
  | [.lst xs], m =>
    obtain ⟨z, e1, m⟩ := bind_inv (show (allB xs).bind (fun k => some (D.bl k)) = some d from m)
    cases m
    obtain ⟨v, rfl, h⟩ := one_of r
    obtain ⟨p, ys, rfl, h1, h2⟩ := h.lst_up
    obtain ⟨bs, rfl, rfl⟩ := allB_inv e1
    rw [dens_bls h2] at h1
    exact ⟨p, bs, rfl, h1, k _ H (Same.refl _) (.bl _)⟩
/-! ### items and slices -/
theorem id_ix : IxD X oIx := by
  refine ⟨_, ix_list.or (ix_tup.or ix_str), fun os H L dx dy d x y Q rx ry m k => ?_⟩
  cases dy with
  | int i =>
    cases dx with
    | lst ds =>
      obtain ⟨j, e1, e2⟩ := bind_inv (show (ixD ds.length i).bind (fun j => ds[j]?) = some d from m)
      obtain ⟨a, xs, rfl, h1, h2⟩ := rx.lst_up
      obtain ⟨v, hv, rv⟩ := h2.get e2
      refine .inl ⟨a, xs, i, v, rfl, ry.int_inv, h1, ?_, k v H (Same.refl _) rv⟩
      show (ixD xs.length i).bind (fun j => xs[j]?) = some v
      rw [← h2.length, e1]
      exact hv
    | tup ds =>
      obtain ⟨j, e1, e2⟩ := bind_inv (show (ixD ds.length i).bind (fun j => ds[j]?) = some d from m)
      obtain ⟨a, xs, rfl, h1, h2⟩ := rx.tup_up
      obtain ⟨v, hv, rv⟩ := h2.get e2
      refine .inr (.inl ⟨a, xs, i, v, rfl, ry.int_inv, h1, ?_, k v H (Same.refl _) rv⟩)
      show (ixD xs.length i).bind (fun j => xs[j]?) = some v
      rw [← h2.length, e1]
      exact hv
    | str z =>
      have m' : (if z.length ≤ 16777216 then (ixD z.cps.toList.length i).bind fun j => z.cps.toList[j]?.bind fun c => some (D.str ⟨#[c]⟩) else none) = some d := m
      split at m'
      · rename_i hz
        obtain ⟨j, e1, m'⟩ := bind_inv m'
        obtain ⟨c, e2, m'⟩ := bind_inv m'
        cases m'
        refine .inr (.inr ⟨z, i, c, rx.str_inv, ry.int_inv, by rw [lim_eq]; exact hz, ?_, k _ H (Same.refl _) (.str _)⟩)
        show (ixD z.cps.toList.length i).bind (fun j => z.cps.toList[j]?) = some c
        rw [e1]
        exact e2
      · cases m'
    | _ => cases m
  | _ => cases dx <;> cases m
end
end DL

set_option Elab.async false
set_option linter.all false
set_option maxRecDepth 100000
namespace DL
open PySem PySem.Spec PyProof.Rows L2
section
variable {prog : Program} {w : World} {A : Around} {E : Value → Shared → Prop} {s : Shared}
/-- t[lo:hi], the whole of it: t itself -/
theorem getItem_tuple_whole {t sl : Addr} {items : Array Value} {vl vu : Value} {lo hi : Option Int} {Q : Value → Shared → Prop} (ht : IsTup s.heap t items) (hs : s.heap.IsSliceOf sl vl vu .none) (pl : IsPart vl lo) (pu : IsPart vu hi)
    (hw : HT.sIx items.size 0 lo = 0 ∧ HT.sIx items.size items.size hi = items.size) (h : Q (.ref t) s) : wpAny (model prog w) A (getItem (.ref t) (.ref sl)) Q E s := by
  obtain ⟨os, hos, hcs, hds⟩ := id hs
  have hTs : s.TypeIs (.ref sl) "slice" := ⟨os, hos, hcs⟩
  unfold getItem
  try with_reducible refine wpAny_holding ?_
  first | refine wpAny_bind (wpAny_pure ?_) | skip
  refine wpAny_bind (wpAny_sequenceKey ht.typeIs (by decide) ?_)
  refine wpAny_bind (wpAny_callSpecial?_slot (name := Str.ofString "__getitem__") ht.typeIs PyProof.Rows.slot_tuple_getitem
    (wpAny_call_entry PyProof.Rows.slot_tuple_getitem ht.typeIs entry_tuple_getitem ?_ (args_tuple_getitem _ _)))
  show wpAny _ _ (Builtin.Tuple.tupleItemsOf (.ref t) >>= _) _ _ s
  refine wpAny_bind (tupleItemsOf_ ht ?_)
  refine wpAny_bind (wpAny_typeOf hTs ?_)
  rw [if_pos (by decide)]
  refine wpAny_bind (HT.sliceApplied_gen hs pl pu ?_)
  have hyes : ((((HT.sIx items.size 0 lo : Nat) : Int) == 0 && (1 : Int) == 1 && (HT.sIx items.size items.size hi - HT.sIx items.size 0 lo) == items.size) = true) := by
    rw [hw.1, hw.2]
    simp
  show wpAny _ _ (if (((HT.sIx items.size 0 lo : Nat) : Int) == 0 && (1 : Int) == 1 && (HT.sIx items.size items.size hi - HT.sIx items.size 0 lo) == items.size) = true then _ else _) _ _ s
  rw [if_pos hyes]
  unfold Builtin.Tuple.tupleIsExact
  refine wpAny_bind (wpAny_bind (wpAny_typeOf ht.typeIs (wpAny_pure ?_)))
  rw [if_pos (by decide)]
  refine wpAny_bind (wpAny_rule ?_)
  first
    | exact wpAny_pure ⟨_, rfl, wpAny_pure h⟩
    | exact wpAny_bind (wpAny_pure (wpAny_pure ⟨_, rfl, wpAny_pure h⟩))
end
section
variable {X : Cx} {a b c e : Expr} {es : List Expr} {ma mb mc md me : ME} {pos p p2 p3 : Pos}
def rSlW (K : PySem.W.Frag) : V → Option Int → Option Int → Hp → VK → Prop := fun x lo hi H Q => ∃ a xs, x = .ref a ∧ SqT K H a xs ∧ (HT.sIx xs.length 0 lo = 0 ∧ HT.sIx xs.length xs.length hi = xs.length) ∧ Q (.ref a) H
theorem sl_tupW : SlR X (rSlW X.K) := by
  intro pins s σ H x v vl vu lo hi sl Q I rx hs pl pu h
  obtain ⟨a, xs, rfl, hx, hw, q⟩ := h
  cases rx
  obtain ⟨its, r, ht, hz⟩ := I.tuple hx
  have hlen : its.toArray.size = xs.length := by rw [List.size_toArray]; exact r.length.symm
  exact ⟨"tuple", _, PyProof.Rows.slot_tuple_getitem.lookup, ht.typeIs, getItem_tuple_whole ht hs pl pu (by rw [hlen]; exact hw) ⟨.ref a, H, I, rfl, q⟩⟩
theorem cutV_take (xs : List V) (k : Nat) : cutV xs none (some (k : Int)) = xs.take k := by
  unfold cutV
  rw [HT.sIx_none, HT.sIx_nat, List.drop_zero, Nat.sub_zero]
  rcases Nat.le_total k xs.length with h | h
  · rw [Nat.min_eq_left h]
  · rw [Nat.min_eq_right h, List.take_length, List.take_of_length_le h]
/-- t[:k] -/
theorem de_cut (k : Nat) {j : Nat} (he : DE X e me) : DE X (.Subscript e (.Slice none (some (.Constant (.int k) j p3)) none p2) pos) (eUn (uCut k) me) := by
  obtain ⟨te, pe, qe⟩ := he
  refine ⟨_, pe_slice (sl_list.or (sl_tup.or sl_tupW)) pe po_none (po_some pe_int), fun os σ H δ d Q s m kq => ?_⟩
  obtain ⟨dx, e1, m⟩ := bind_inv m
  refine qe os σ H δ dx _ s e1 fun x H1 g1 r1 => ⟨(k : Int), rfl, ?_⟩
  cases dx with
  | lst ds =>
    cases m
    obtain ⟨a, xs, rfl, h1, h2⟩ := r1.lst_up
    refine .inl ⟨a, xs, rfl, h1, fun q hq => ?_⟩
    rw [cutV_take]
    exact kq _ _ (g1.trans (same_new hq (.lst (xs.take k)))) (.newL (s.live.mono g1) hq (h2.take k))
  | tup ds =>
    cases m
    obtain ⟨a, xs, rfl, h1, h2⟩ := r1.tup_up
    have hl := h2.length
    by_cases hw : xs.length ≤ k
    · refine .inr (.inr ⟨a, xs, rfl, h1, ⟨HT.sIx_none _ _, by rw [HT.sIx_nat]; omega⟩, ?_⟩)
      rw [List.take_of_length_le (by omega)] at kq
      exact kq _ H1 g1 r1
    · refine .inr (.inl ⟨a, xs, rfl, h1, fun z => ?_, fun q hq => ?_⟩)
      · rw [HT.sIx_nat] at z
        omega
      · rw [cutV_take]
        exact kq _ _ (g1.trans (same_new hq (.tup (xs.take k)))) (.newT (s.live.mono g1) hq (h2.take k))
  | _ => cases m
/-! ### chains -/
theorem de_chain2 {op op' : CmpOp} {f g : D → D → Option D} (ho : OpD X (compareOp op) f) (ho' : OpD X (compareOp op') g) (hf : ∀ x y d, f x y = some d → ∃ k, d = .bl k) (hg : ∀ x y d, g x y = some d → ∃ k, d = .bl k)
    (ha : DE X a ma) (hb : DE X b mb) (hc : DE X c mc) (hm : lastMarks [op, op'] [b, c] = false := by with_unfolding_all rfl) : DE X (.Compare a [op, op'] [b, c] pos) (eChain2 f g ma mb mc) := by
  obtain ⟨r, hr, qr⟩ := ho
  obtain ⟨r', hr', qr'⟩ := ho'
  obtain ⟨ta, pa, qa⟩ := ha
  obtain ⟨tb, pb, qb⟩ := hb
  obtain ⟨tc, pc, qc⟩ := hc
  refine ⟨_, pe_chain hr hr' pa pb pc hm, fun os σ H δ d Q s m kq => ?_⟩
  obtain ⟨x, e1, m⟩ := bind_inv m
  obtain ⟨y, e2, m⟩ := bind_inv m
  obtain ⟨z, e3, m⟩ := bind_inv m
  obtain ⟨k, rfl⟩ := hf x y z e3
  refine qa os σ H δ x _ s e1 fun vx H1 g1 r1 => ?_
  refine qb os σ H1 δ y _ (s.mono g1) e2 fun vy H2 g2 r2 => ?_
  refine qr os H2 (s.live.mono (g1.trans g2)) x y _ vx vy _ (r1.mono (g2).hd _ _) r2 e3 fun vz H3 g3 r3 => ⟨k, r3.bl_inv, ?_⟩
  have g13 := g1.trans (g2.trans g3)
  cases k with
  | false => cases m; exact iteF (kq _ H3 g13 (.bl false))
  | true =>
    obtain ⟨u, e4, m⟩ := bind_inv m
    exact iteT (qc os σ H3 δ u _ (s.mono g13) e4 fun vu H4 g4 r4 => qr' os H4 (s.live.mono (g13.trans g4)) y u d vy vu Q (r2.mono ((g3.trans g4)).hd _ _) r4 m (kq.mono (g13.trans g4)))
/-- a op1 b op2 c op3 d -/
def tChain3 (r r' r'' : R2) (ta tb tc td : TE) : TE := fun σ H Q => ta σ H fun x H1 => tb σ H1 fun y H2 => r x y H2 fun z H3 => ∃ k, z = .bl k ∧
  (if k = true then tc σ H3 fun u H4 => r' y u H4 fun z' H5 => ∃ k', z' = .bl k' ∧ (if k' = true then td σ H5 fun v H6 => r'' u v H6 Q else Q (.bl false) H5) else Q (.bl false) H3)
theorem pe_chain3 {d : Expr} {ta tb tc td : TE} {op op' op'' : CmpOp} {r r' r'' : R2} (ho : OpR X (compareOp op) r) (ho' : OpR X (compareOp op') r') (ho'' : OpR X (compareOp op'') r'') (ha : PE X a ta) (hb : PE X b tb) (hc : PE X c tc) (hd : PE X d td)
    (hm : lastMarks [op, op', op''] [b, c, d] = false := by with_unfolding_all rfl) (hev : evalEach [d] X.env = [eval d X.env] := by rfl) : PE X (.Compare a [op, op', op''] [b, c, d] pos) (tChain3 r r' r'' ta tb tc td) := by
  intro pins s σ H Q I h
  refine Compare_chain (thn (ha pins s σ H _ I h) fun v s1 ⟨x, H1, I1, r1, q1⟩ => chain_link (thn (hb pins s1 σ H1 _ I1 q1) fun u s2 ⟨y, H2, I2, r2, q2⟩ =>
    thn (ho pins s2 σ H2 x y v u _ I2 r1 r2 q2) fun dd s3 ⟨z, H3, I3, r3, k, e, q3⟩ => ?_)) hm
  subst e
  cases r3
  refine wpAny_truthy_bool ?_
  cases k with
  | false => exact ite_ff ⟨.bl false, H3, I3, rfl, q3⟩
  | true =>
    rw [hev]
    refine ite_tt (chain_link (thn (hc pins s3 σ H3 _ I3 q3) fun w' s4 ⟨z', H4, I4, r4, q4⟩ => thn (ho' pins s4 σ H4 y z' u w' _ I4 r2 r4 q4) fun d2 s5 ⟨z2, H5, I5, r5, k2, e2, q5⟩ => ?_))
    subst e2
    cases r5
    refine wpAny_truthy_bool ?_
    cases k2 with
    | false => exact ite_ff ⟨.bl false, H5, I5, rfl, q5⟩
    | true => exact ite_tt (chain_last (thn (hd pins s5 σ H5 _ I5 q5) fun w2 s6 ⟨z3, H6, I6, r6, q6⟩ => ho'' pins s6 σ H6 z' z3 w' w2 Q I6 r4 r6 q6))
theorem de_chain3 {d : Expr} {op op' op'' : CmpOp} {f g h : D → D → Option D} (ho : OpD X (compareOp op) f) (ho' : OpD X (compareOp op') g) (ho'' : OpD X (compareOp op'') h) (hf : ∀ x y d, f x y = some d → ∃ k, d = .bl k) (hg : ∀ x y d, g x y = some d → ∃ k, d = .bl k) (hh : ∀ x y d, h x y = some d → ∃ k, d = .bl k)
    (ha : DE X a ma) (hb : DE X b mb) (hc : DE X c mc) (hd : DE X d md) (hm : lastMarks [op, op', op''] [b, c, d] = false := by with_unfolding_all rfl) (hev : evalEach [d] X.env = [eval d X.env] := by rfl) : DE X (.Compare a [op, op', op''] [b, c, d] pos) (eChain3 f g h ma mb mc md) := by
  obtain ⟨r, hr, qr⟩ := ho
  obtain ⟨r', hr', qr'⟩ := ho'
  obtain ⟨r'', hr'', qr''⟩ := ho''
  obtain ⟨ta, pa, qa⟩ := ha
  obtain ⟨tb, pb, qb⟩ := hb
  obtain ⟨tc, pc, qc⟩ := hc
  obtain ⟨td, pd, qd⟩ := hd
  refine ⟨_, pe_chain3 hr hr' hr'' pa pb pc pd hm hev, fun os σ H δ o Q s m kq => ?_⟩
  obtain ⟨x, e1, m⟩ := bind_inv m
  obtain ⟨y, e2, m⟩ := bind_inv m
  obtain ⟨z, e3, m⟩ := bind_inv m
  obtain ⟨k, rfl⟩ := hf x y z e3
  refine qa os σ H δ x _ s e1 fun vx H1 g1 r1 => ?_
  refine qb os σ H1 δ y _ (s.mono g1) e2 fun vy H2 g2 r2 => ?_
  refine qr os H2 (s.live.mono (g1.trans g2)) x y _ vx vy _ (r1.mono (g2).hd _ _) r2 e3 fun vz H3 g3 r3 => ⟨k, r3.bl_inv, ?_⟩
  have g13 := g1.trans (g2.trans g3)
  cases k with
  | false => cases m; exact iteF (kq _ H3 g13 (.bl false))
  | true =>
    obtain ⟨u, e4, m⟩ := bind_inv m
    obtain ⟨z', e5, m⟩ := bind_inv m
    obtain ⟨k', rfl⟩ := hg y u z' e5
    refine iteT (qc os σ H3 δ u _ (s.mono g13) e4 fun vu H4 g4 r4 => qr' os H4 (s.live.mono (g13.trans g4)) y u _ vy vu _ (r2.mono ((g3.trans g4)).hd _ _) r4 e5 fun vz' H5 g5 r5 => ⟨k', r5.bl_inv, ?_⟩)
    have g15 := g13.trans (g4.trans g5)
    cases k' with
    | false => cases m; exact iteF (kq _ H5 g15 (.bl false))
    | true =>
      obtain ⟨o', e6, m⟩ := bind_inv m
      exact iteT (qd os σ H5 δ o' _ (s.mono g15) e6 fun vo H6 g6 r6 => qr'' os H6 (s.live.mono (g15.trans g6)) u o' o vu vo Q (r4.mono ((g5.trans g6)).hd _ _) r6 m (kq.mono (g15.trans g6)))
end
end DL

set_option Elab.async false
set_option linter.all false
set_option maxRecDepth 100000
namespace DL
open PySem PySem.Spec PyProof.Rows L2
open AutoSeq1 (wpAny_loadPart')

/-! ### enumerate -/
section
variable {prog : Program} {w : World} {A : Around} {E : Value → Shared → Prop} {s : Shared} {it l : Addr} {i : Nat} {items : Array Value}
theorem tup_step {x : Value} {Q : PySem.Fin → Shared → Prop} (a : s.heap.IsTupleIter it l i) (b : s.heap.IsTuple l items) (hx : items[i]? = some x)
    (k : ∀ h', h'.IsTupleIter it l (i + 1) → Heap.SameBut it s.heap h' → Q (.done (.ret x)) { s with heap := h' }) : wpAny (model prog w) A (Builtin.«tuple_iterator.__next__» ⟨[.ref it], []⟩) Q E s := by
  obtain ⟨o, ho, hc, hd⟩ := a
  obtain ⟨p, hp, _, n, hq⟩ := b
  wp_walk using wpAny_field ho hd (x := .ref l) rfl, wpAny_field ho hd (x := .int i 0) rfl, wpAny_seqItems hp hq
  rw [show items[(i : Int).toNat]? = some x from hx]
  refine wpAny_bind (wpAny_setField ho hd (Nat.lt_succ_self 1) (wpAny_pure (k _ ⟨_, Heap.get?_update_self _ ho ?_, ?_, ?_⟩ (Heap.SameBut.update ..))))
  · exact Obj.isFreed_of_fields (Obj.data_mapFields hd _)
  · rw [Obj.cls_mapFields, hc]
  · rw [Obj.data_mapFields hd]; rfl
theorem tup_stop {Q : PySem.Fin → Shared → Prop} (hh : A.handled = none) (a : s.heap.IsTupleIter it l i) (b : s.heap.IsTuple l items) (hx : items[i]? = none)
    (k : ∀ h' e, Heap.ExtBut it s.heap h' → (∃ o, h'.get? e = some o ∧ o.cls = .type "StopIteration") → E (.ref e) { s with heap := h' }) : wpAny (model prog w) A (Builtin.«tuple_iterator.__next__» ⟨[.ref it], []⟩) Q E s := by
  obtain ⟨o, ho, hc, hd⟩ := a
  obtain ⟨p, hp, _, n, hq⟩ := b
  wp_walk using wpAny_field ho hd (x := .ref l) rfl, wpAny_field ho hd (x := .int i 0) rfl, wpAny_seqItems hp hq
  rw [show items[(i : Int).toNat]? = none from hx]
  refine wpAny_bind (wpAny_rule (wpAny_bind (wpAny_setField ho hd (Nat.succ_pos 1) ?_)))
  unfold Builtin.SmallTypes.stopIteration
  wp_walk
  refine wpAny_raiseNew_none hh (k _ _ (((Heap.SameBut.update s.heap it _).extBut.push _).push _) ?_)
  exact ⟨_, Heap.get?_push_size _ rfl, rfl⟩
end
/-- a walk over the tuple at l, at its start; enumerate over the walk at j -/
def tupWalk (l : Addr) : Obj := { cls := .type "tuple_iterator", data := .fields #[.ref l, .int 0 0] }
def enumOver (j : Addr) : Obj := { cls := .type "enumerate", data := .fields #[.none, .bool false, .ref j, rawInt 0, .none, .none] }
theorem enum_made (l : Addr) (items : Array Value) (n : Nat) (dd : Option Addr) (sl : Array (Option Value)) : Meets (Builtin.«enumerate.__new__» ⟨[.type "enumerate", .ref l], []⟩) fun _ R s =>
    s.heap.get? l = some ⟨.type "tuple", dd, .seq items n, sl⟩ ∧ R (.ok (.ret (.ref (s.heap.objs.size + 1)))) { s with heap := (s.heap.push (tupWalk l)).push (enumOver s.heap.objs.size) } := by
  refine .of_wp fun prog w A R s h => ?_
  rcases s with ⟨hp, g, d, tk, os⟩
  have tup : Heap.IsTuple hp l items := ⟨_, h.1, rfl, n, rfl⟩
  have sub := sub_enumerate
  have fin := h.2
  rw [← Heap.size_push hp (tupWalk l)] at fin
  wp_walk using wpAny_loadPart' h.1
  refine wpAny_stack_any fun _ => wpAny_pure ?_
  split <;> (try (rename_i c _ _ _ _ _; cases (c == Value.type "enumerate"))) <;> (wp_walk using wpAny_loadPart' h.1, wpAny_pyIter_tuple (s := ⟨hp, g, d, tk, os⟩) tup) <;> exact ⟨_, rfl, fin⟩
section
variable {prog : Program} {w : World} {A : Around} {E : Value → Shared → Prop} {s : Shared} {it l : Addr} {items : Array Value}
theorem call_enum_tuple {Q : Value → Shared → Prop} (t : s.heap.IsTuple l items)
    (k : ∀ h', IsEnum h' (s.heap.objs.size + 1) s.heap.objs.size 0 .none → h'.IsTupleIter s.heap.objs.size l 0 → (∀ b o, s.heap.get? b = some o → h'.get? b = some o) → Q (.ref (s.heap.objs.size + 1)) { s with heap := h' }) :
    wpAny (model prog w) A (call (.type "enumerate") [.ref l]) Q E s := by
  obtain ⟨⟨c, dd, dt, sl⟩, hl, rfl, n, rfl⟩ := t
  have z := Heap.size_push s.heap (tupWalk l)
  have top := Heap.get?_push_size (s.heap.push (tupWalk l)) (o := enumOver s.heap.objs.size) rfl
  rw [z] at top
  have low := Heap.get?_push_of_some (enumOver s.heap.objs.size) (Heap.get?_push_size s.heap (o := tupWalk l) rfl)
  exact callType_new F.called_enumerate (by decide) (F.typeCall_enumerate_1 _) (F.newCall_enumerate_1 _) (fun _ => F.args_object_init_2 _ _) F.entry_enumerate_new (enum_made l items n dd sl)
    ⟨hl, ⟨_, top, rfl⟩, k _ top ⟨_, low, rfl, rfl⟩ fun b o q => Heap.get?_push_of_some _ (Heap.get?_push_of_some _ q)⟩
theorem next_by {Q : Value → Shared → Prop} {i : Nat} (a : s.heap.IsTupleIter it l i) (h : wpAny (model prog w) A.in1 (Builtin.«tuple_iterator.__next__» ⟨[.ref it], []⟩) (fun f s' => ∃ x, f = .done (.ret x) ∧ Q x s') E s) : wpAny (model prog w) A (Builtin.SmallTypes.nextOf (.ref it)) Q E s := by
  refine wpAny_bind (wpAny_callSpecial?_slot a.typeIs F.slot_tuple_iterator_next (wpAny_call_entry F.slot_tuple_iterator_next a.typeIs F.entry_tuple_iterator_next (wpAny_mono h (fun f s' r => ?_) fun _ _ z => z) (F.args_tuple_iterator_next_1 _)))
  obtain ⟨x, rfl, q⟩ := r
  exact ⟨x, rfl, wpAny_pure q⟩
theorem draws_tuple (hh : A.handled = none) (ne : l ≠ it) (items : Array Value) : Draws prog w A it [it, l] items.size (fun i v => items[i]? = some v) fun i h => h.IsTupleIter it l i ∧ h.IsTuple l items := by
  constructor
  · rintro i h ⟨⟨o, q, _⟩, _⟩
    exact ⟨o, q⟩
  · rintro i h h' ⟨a, b⟩ k
    exact ⟨a.at (k it (by simp)), b.at (k l (by simp))⟩
  · rintro i s Q E hi ⟨a, b⟩ k
    have hx : items[i]? = some items[i] := by simp [hi]
    exact next_by a (tup_step a b hx fun h' a' sb => ⟨_, rfl, k _ h' s.toks hx ⟨a', b.extBut sb.extBut ne⟩ sb⟩)
  · rintro s Q E ⟨a, b⟩ k
    exact next_by a (tup_stop hh a b (by simp) k)
end

section
variable {X : Cx} {pins : List (Addr × Obj)} {σ : L2.St} {H : Hp} {s : Shared} {h' : Heap}
/-- several records of an iterator have turned -/
theorem turnedL {fp : List Addr} {t' : Nat} (I : Inv X pins σ H s) (hf : ∀ b ∈ fp, FpOk X pins H b) (k : ∀ b o, b ∉ fp → s.heap.get? b = some o → h'.get? b = some o) : Inv X pins σ H { s with heap := h', toks := t' } := by
  have nit : ∀ b u, H b = some u → b ∉ fp := fun b u e z => by rw [(hf b z).1] at e; cases e
  refine I.step (g' := s.gens) (d' := s.drawn) (ch := fp) (fun b hb => ⟨(hf b hb).2.2.2.1, (hf b hb).2.1, (hf b hb).2.2.2.2.1, (hf b hb).2.2.2.2.2⟩) (fun b o _ _ hc e _ => k b o hc e) (fun b o _ _ hc e _ => ⟨o.slots, k b o hc e⟩) (fun _ _ _ _ n => n)
    (fun b o hc e => ⟨o, k b o hc e⟩) (fun _ _ e => e) (fun _ _ _ e => e) (fun b ps e => ⟨#[], by rw [e]; simp⟩) (fun m hm => ?_) (fun b u e => ?_) I.bare
  · obtain ⟨o, es, ep, ho, r⟩ := hm
    exact ⟨o, es, ep, k _ o (fun z => (hf _ z).2.1 rfl) ho, r⟩
  · refine (I.hok b u e).stay (fun c v hc q => k c v ?_ q) (fun _ q => q) fun _ _ q => q
    rcases hc with z | z
    · rw [z]; exact nit b u e
    · exact nit c _ z
/-- pairs of a place and an item, made anew -/
def Ite (sq : Hp → Addr → List V → Prop) (a : Addr) : It :=
  ⟨fun i H => ∃ xs x, sq H a xs ∧ xs[i]? = some x, fun i H p H' => ∃ x t, (∀ xs, sq H a xs → xs[i]? = some x) ∧ H t = none ∧ p = .ref t ∧ H' = upd H t (.tup [.int i, x]), fun i H => ∃ xs, sq H a xs ∧ i = xs.length⟩
/-- one turn of enumerate: what the heap is then -/
theorem enum_inv {e it T : Addr} {tk tk' : Nat} {i : Int} {x : V} {u : Value} {h2 : Heap} (I : Inv X pins σ H s) (hf : ∀ b ∈ [e, it], FpOk X pins H b) (hlt : ∀ b ∈ [e, it], b < s.heap.objs.size) (hT : T = s.heap.objs.size) (ru : RelV x u)
    (hk : ∀ b o, b ≠ e → b ≠ it → s.heap.get? b = some o → h2.get? b = some o) (ht : h2.get? T = some { cls := .type "tuple", data := .seq #[.int i tk, u] }) :
    Inv X pins σ (upd H T (.tup [.int i, x])) { s with heap := h2, toks := tk' } := by
  subst hT
  have I1 : Inv X pins σ (upd H s.heap.objs.size (.tup [.int i, x])) { s with heap := s.heap.push { cls := .type "tuple", data := .seq [Value.int i tk, u].toArray }, toks := tk' } := by
    refine I.laid (t' := tk') (fun b o q => Heap.get?_push_of_some _ q) (Nat.le_refl _) ?_
    exact ⟨by show 2 ≤ sizeLine; rw [lim_eq]; decide, [.int i tk, u], .cons ⟨tk, rfl⟩ (.cons ru .nil), IsTup.new _ _⟩
  have T1 := turnedL (t' := tk') (h' := h2) (fp := [e, it]) I1
  refine T1 (fun b hb => ⟨?_, (hf b hb).2⟩) fun b o hb q => ?_
  · rw [upd_ne (Nat.ne_of_lt (hlt b hb))]
    exact (hf b hb).1
  · by_cases hz : b = s.heap.objs.size
    · subst hz
      have q' := (Heap.get?_push_size s.heap (o := { cls := .type "tuple", data := .seq [Value.int i tk, u].toArray }) rfl).symm.trans q
      cases q'
      exact ht
    · have q' : (s.heap.push { cls := .type "tuple", data := .seq [Value.int i tk, u].toArray }).get? b = some o := q
      have hlt' : b < (s.heap.push { cls := .type "tuple", data := .seq [Value.int i tk, u].toArray }).objs.size := Heap.lt_size q'
      rw [Heap.size_push] at hlt'
      have hb' : b < s.heap.objs.size := Nat.lt_of_le_of_ne (Nat.le_of_lt_succ hlt') hz
      refine hk b o (fun z => hb (by simp [z])) (fun z => hb (by simp [z])) ?_
      obtain ⟨o1, ho1⟩ : ∃ o1, s.heap.get? b = some o1 := by
        cases hg : s.heap.get? b with
        | some o1 => exact ⟨o1, rfl⟩
        | none =>
          exfalso
          obtain ⟨q1, q2⟩ := Heap.get?_some_iff.mp q'
          have q3 : s.heap.objs[b]? = some o := by
            revert q1
            generalize s.heap = hh at hb' ⊢
            cases hh
            intro q1
            simpa [Heap.push, Array.getElem?_push, Nat.ne_of_lt hb'] using q1
          rw [Heap.get?_some_iff.mpr ⟨q3, q2⟩] at hg
          cases hg
      have := Heap.get?_push_of_some { cls := .type "tuple", data := .seq [Value.int i tk, u].toArray } ho1
      rw [q'] at this
      cases this
      exact ho1
theorem turn_enumT {P : Program} {w : World} {K : PySem.W.Frag} {elts : List Expr} {k : Nat} {pos : Pos} (a e it : Addr) : Turn P w K (.Tuple elts k pos) (Ite (SqT K) a) [e, it] e (fun i h => e ≠ it ∧ (∃ old, IsEnum h e it i old) ∧ h.IsTupleIter it a i) where
  mem := by simp
  obj := fun i h st b hb => by
    obtain ⟨_, ⟨old, he⟩, o, ho, c, d⟩ := st
    rcases List.mem_cons.mp hb with rfl | hb
    · exact ⟨_, he, fun v z => by cases z⟩
    · rw [List.mem_singleton.mp hb]
      exact ⟨o, ho, fun v z => by rw [d] at z; cases z⟩
  keep := fun i h h' st k => by
    obtain ⟨ne, ⟨old, he⟩, o, ho, r⟩ := st
    exact ⟨ne, ⟨old, k e (by simp) _ he⟩, o, k it (by simp) o ho, r⟩
  item := by
    intro X hP hw hK hc i pins s σ H E I hf st hg
    subst hP hw hK
    obtain ⟨hne, ⟨old, he⟩, hit⟩ := st
    obtain ⟨xs, x, hq, hx⟩ := hg
    obtain ⟨its, rv, p, hz⟩ := I.tuple hq
    obtain ⟨u, hu, ru⟩ := rv.get hx
    have p' : s.heap.IsTuple a its.toArray := p
    have hai : a ≠ it := fun z => by
      obtain ⟨o, e1, c1, _⟩ := p'
      obtain ⟨o', e2, c2, _⟩ := hit
      rw [z, e2] at e1
      cases e1
      rw [c2] at c1
      injection c1 with c1
      exact absurd c1 (by decide)
    have hae : e ≠ a := fun z => by
      obtain ⟨o, e1, c1, _⟩ := p'
      rw [← z, he] at e1
      cases e1
      injection c1 with c1
      exact absurd c1 (by decide)
    have hil : i < its.toArray.size := by
      rw [List.size_toArray]
      exact (List.getElem?_eq_some_iff.mp hu).1
    have ltE : e < s.heap.objs.size := Heap.lt_size he
    have ltI : it < s.heap.objs.size := by obtain ⟨o, q, _⟩ := hit; exact Heap.lt_size q
    refine wpAny_pyNext_enum_itemD (draws_tuple (A := X.A.in1) (I.ok.hd hc) hai its.toArray) he ⟨hit, p'⟩ hil hne (by simp [hne, hae]) fun y h1 tk hy ho hs1 hT hsz hk => ?_
    have hyu : y = u := by
      have hy' : its.toArray[i]? = some y := hy
      have hu' : its.toArray[i]? = some u := by simpa using hu
      rw [hu'] at hy'
      exact (Option.some.inj hy').symm
    subst hyu
    refine ⟨_, rfl, wpAny_letOwnedTupleGo_enum ho fun h2 he2 hs2 => ?_⟩
    have hs2' : Heap.SameBut e h1 h2 := hs2
    refine ⟨.ref s.heap.objs.size, upd H s.heap.objs.size (.tup [.int i, x]), ?_, rfl, ⟨x, s.heap.objs.size, fun ys hy' => by rw [I.tuple_inj hy' hq]; exact hx, I.fresh, rfl, rfl⟩, ⟨hne, ⟨_, by simpa using he2⟩, ?_⟩, fun b hb => ?_⟩
    · refine enum_inv (s := s) (tk' := tk + 1) I hf (fun b hb => ?_) rfl ru (fun b o n1 n2 q => (hs2'.2 b n1).trans (hk b o n1 n2 q)) ((hs2'.2 _ (Nat.ne_of_gt ltE)).trans hT)
      rcases List.mem_cons.mp hb with rfl | hb
      · exact ltE
      · rw [List.mem_singleton.mp hb]; exact ltI
    · obtain ⟨o, q, r⟩ := hs1.1
      exact ⟨o, (hs2'.2 it hne.symm).trans q, r⟩
    · have hlt : b < s.heap.objs.size := by
        rcases List.mem_cons.mp hb with rfl | hb
        · exact ltE
        · rw [List.mem_singleton.mp hb]; exact ltI
      rw [upd_ne (Nat.ne_of_lt hlt)]
      exact (hf b hb).1
  done := by
    intro X hP hw hK hc i pins s σ H E I hf st hg
    subst hP hw hK
    obtain ⟨hne, ⟨old, he⟩, hit⟩ := st
    obtain ⟨xs, hq, hx⟩ := hg
    obtain ⟨its, rv, p, hz⟩ := I.tuple hq
    have hl := rv.length
    have hai : a ≠ it := fun z => by
      obtain ⟨o, e1, c1, _⟩ := (show s.heap.IsTuple a its.toArray from p)
      obtain ⟨o', e2, c2, _⟩ := hit
      rw [z, e2] at e1
      cases e1
      rw [c2] at c1
      injection c1 with c1
      exact absurd c1 (by decide)
    have hi : i = its.toArray.size := by rw [List.size_toArray]; omega
    subst hi
    refine wpAny_pyNext_enum_endD (draws_tuple (A := X.A.in1) (I.ok.hd hc) hai its.toArray) he ⟨hit, (show s.heap.IsTuple a its.toArray from p)⟩ fun h' hx' => ⟨rfl, ?_⟩
    exact turnedL (t' := s.toks) I hf fun b o hb q => hx' b o (fun z => hb (by simp [z])) q
  self := fun _ _ _ _ _ st h => by
    obtain ⟨_, ⟨old, he⟩, _⟩ := st
    exact wpAny_pyIter_enum he h
theorem turn_enumL {P : Program} {w : World} {K : PySem.W.Frag} {elts : List Expr} {k : Nat} {pos : Pos} (a e it : Addr) : Turn P w K (.Tuple elts k pos) (Ite (SqL K) a) [e, it] e (fun i h => e ≠ it ∧ (∃ old, IsEnum h e it i old) ∧ h.IsListIter it a i) where
  mem := by simp
  obj := fun i h st b hb => by
    obtain ⟨_, ⟨old, he⟩, o, ho, c, d⟩ := st
    rcases List.mem_cons.mp hb with rfl | hb
    · exact ⟨_, he, fun v z => by cases z⟩
    · rw [List.mem_singleton.mp hb]
      exact ⟨o, ho, fun v z => by rw [d] at z; cases z⟩
  keep := fun i h h' st k => by
    obtain ⟨ne, ⟨old, he⟩, o, ho, r⟩ := st
    exact ⟨ne, ⟨old, k e (by simp) _ he⟩, o, k it (by simp) o ho, r⟩
  item := by
    intro X hP hw hK hc i pins s σ H E I hf st hg
    subst hP hw hK
    obtain ⟨hne, ⟨old, he⟩, hit⟩ := st
    obtain ⟨xs, x, hq, hx⟩ := hg
    obtain ⟨its, rv, p, hz⟩ := I.list hq
    obtain ⟨u, hu, ru⟩ := rv.get hx
    have p' : s.heap.IsList a its.toArray := p.isList
    have hai : a ≠ it := fun z => by
      obtain ⟨o, e1, c1, _⟩ := p'
      obtain ⟨o', e2, c2, _⟩ := hit
      rw [z, e2] at e1
      cases e1
      rw [c2] at c1
      injection c1 with c1
      exact absurd c1 (by decide)
    have hae : e ≠ a := fun z => by
      obtain ⟨o, e1, c1, _⟩ := p'
      rw [← z, he] at e1
      cases e1
      injection c1 with c1
      exact absurd c1 (by decide)
    have hil : i < its.toArray.size := by
      rw [List.size_toArray]
      exact (List.getElem?_eq_some_iff.mp hu).1
    have ltE : e < s.heap.objs.size := Heap.lt_size he
    have ltI : it < s.heap.objs.size := by obtain ⟨o, q, _⟩ := hit; exact Heap.lt_size q
    refine wpAny_pyNext_enum_itemD (Draws.list (A := X.A.in1) (I.ok.hd hc) it a hai its.toArray) he ⟨hit, p'⟩ hil hne (by simp [hne, hae]) fun y h1 tk hy ho hs1 hT hsz hk => ?_
    have hyu : y = u := by
      have hy' : its.toArray[i]? = some y := hy
      have hu' : its.toArray[i]? = some u := by simpa using hu
      rw [hu'] at hy'
      exact (Option.some.inj hy').symm
    subst hyu
    refine ⟨_, rfl, wpAny_letOwnedTupleGo_enum ho fun h2 he2 hs2 => ?_⟩
    have hs2' : Heap.SameBut e h1 h2 := hs2
    refine ⟨.ref s.heap.objs.size, upd H s.heap.objs.size (.tup [.int i, x]), ?_, rfl, ⟨x, s.heap.objs.size, fun ys hy' => by rw [I.list_inj hy' hq]; exact hx, I.fresh, rfl, rfl⟩, ⟨hne, ⟨_, by simpa using he2⟩, ?_⟩, fun b hb => ?_⟩
    · refine enum_inv (s := s) (tk' := tk + 1) I hf (fun b hb => ?_) rfl ru (fun b o n1 n2 q => (hs2'.2 b n1).trans (hk b o n1 n2 q)) ((hs2'.2 _ (Nat.ne_of_gt ltE)).trans hT)
      rcases List.mem_cons.mp hb with rfl | hb
      · exact ltE
      · rw [List.mem_singleton.mp hb]; exact ltI
    · obtain ⟨o, q, r⟩ := hs1.1
      exact ⟨o, (hs2'.2 it hne.symm).trans q, r⟩
    · have hlt : b < s.heap.objs.size := by
        rcases List.mem_cons.mp hb with rfl | hb
        · exact ltE
        · rw [List.mem_singleton.mp hb]; exact ltI
      rw [upd_ne (Nat.ne_of_lt hlt)]
      exact (hf b hb).1
  done := by
    intro X hP hw hK hc i pins s σ H E I hf st hg
    subst hP hw hK
    obtain ⟨hne, ⟨old, he⟩, hit⟩ := st
    obtain ⟨xs, hq, hx⟩ := hg
    obtain ⟨its, rv, p, hz⟩ := I.list hq
    have hl := rv.length
    have hai : a ≠ it := fun z => by
      obtain ⟨o, e1, c1, _⟩ := p.isList
      obtain ⟨o', e2, c2, _⟩ := hit
      rw [z, e2] at e1
      cases e1
      rw [c2] at c1
      injection c1 with c1
      exact absurd c1 (by decide)
    have hi : i = its.toArray.size := by rw [List.size_toArray]; omega
    subst hi
    refine wpAny_pyNext_enum_endD (Draws.list (A := X.A.in1) (I.ok.hd hc) it a hai its.toArray) he ⟨hit, p.isList⟩ fun h' hx' => ⟨rfl, ?_⟩
    exact turnedL (t' := s.toks) I hf fun b o hb q => hx' b o (fun z => hb (by simp [z])) q
  self := fun _ _ _ _ _ st h => by
    obtain ⟨_, ⟨old, he⟩, _⟩ := st
    exact wpAny_pyIter_enum he h
end
section
variable {X : Cx} {a : Expr} {ma : ME} {pos pos' p : Pos} {elts : List Expr} {kt : Nat}
def iEnumE (K : PySem.W.Frag) (ta : TA) : TI := fun σ H R => ta σ H fun vs H1 => ∃ a, vs = [.ref a] ∧ (((∃ xs, SqL K H1 a xs) ∧ R (Ite (SqL K) a) H1) ∨ ((∃ xs, SqT K H1 a xs) ∧ R (Ite (SqT K) a) H1))
theorem pi_enum {ta : TA} (hg : Gl X "enumerate") (hm : X.mg "enumerate" = none) (ha : PA X [a] ta) (hs : starEach [a] X.env = [(false, eval a X.env)] := by rfl) :
    PI X (.Tuple elts kt pos') (.Call (.Name "enumerate" p) [a] [] pos) (iEnumE X.K ta) := by
  intro pins s σ H R I h
  refine Call_ (ld_blt I hg hm boot_enumerate (PyProof.Rows.callWith_type1 (thn (ha pos pins s σ H _ I h) fun us s1 ⟨vs, H1, I1, r1, q1⟩ => ?_) hs rfl))
  obtain ⟨a, e, q⟩ := q1
  subst e
  cases r1 with
  | cons r rr =>
    cases rr
    cases r
    have fp : ∀ b ∈ [s1.heap.objs.size + 1, s1.heap.objs.size], FpOk X pins H1 b := fun b hb => by
      have e : s1.heap.objs.size ≤ b := by
        rcases List.mem_cons.mp hb with rfl | hb
        · exact Nat.le_succ _
        · rw [List.mem_singleton.mp hb]; exact Nat.le_refl _
      exact I1.fpOk e (I1.hok.fresh e)
    rcases q with ⟨⟨xs, hq⟩, q⟩ | ⟨⟨xs, hq⟩, q⟩
    · obtain ⟨its, rv, p, hz⟩ := I1.list hq
      refine call_enumerate_list p.isList fun h' he hit hsz hk => wpAny_pyIter_enum he ?_
      exact ⟨s1.heap.objs.size + 1, [s1.heap.objs.size + 1, s1.heap.objs.size], _, _, H1, rfl, I1.kept (t' := s1.toks) hk, turn_enumL a _ _, ⟨Nat.succ_ne_self _, ⟨_, he⟩, hit⟩, fp, q⟩
    · obtain ⟨its, rv, p, hz⟩ := I1.tuple hq
      refine call_enum_tuple (show s1.heap.IsTuple a its.toArray from p) fun h' he hit hk => wpAny_pyIter_enum he ?_
      exact ⟨s1.heap.objs.size + 1, [s1.heap.objs.size + 1, s1.heap.objs.size], _, _, H1, rfl, I1.kept (t' := s1.toks) hk, turn_enumT a _ _, ⟨Nat.succ_ne_self _, ⟨_, he⟩, hit⟩, fp, q⟩
theorem enum_get : ∀ (ds : List D) (k i : Nat) (d : D), (enumD k ds)[i]? = some d → ∃ e, ds[i]? = some e ∧ d = .tup [.int ((k + i : Nat) : Int), e]
  | [], _, _, _, h => by simp [enumD] at h
  | e :: ds, k, 0, d, h => by
    simp [enumD] at h
    exact ⟨e, rfl, by rw [← h]; rfl⟩
  | e :: ds, k, i + 1, d, h => by
    have h' : (enumD (k + 1) ds)[i]? = some d := by simpa [enumD] using h
    obtain ⟨e', h1, h2⟩ := enum_get ds (k + 1) i d h'
    refine ⟨e', by simpa using h1, ?_⟩
    rw [h2, show k + 1 + i = k + (i + 1) by omega]
theorem enum_lenD : ∀ (ds : List D) (k : Nat), (enumD k ds).length = ds.length
  | [], _ => rfl
  | _ :: ds, k => by simp [enumD, enum_lenD ds (k + 1)]
theorem walk_enum {K : PySem.W.Frag} {B : Hp} {a : Addr} {ds : List D} {xs : List V} {sq : Hp → Addr → List V → Prop} (hm : ∀ {H' : Hp}, Same B H' → sq H' a xs) (h2 : Dens K B ds xs) : Walk K (Ite sq a) B (enumD 0 ds) := by
  intro i os1 H1 L g
  have gu := g.trans hide_le
  refine ⟨fun d hd => ?_, fun hl => ⟨xs, hm gu, by rw [← h2.length, ← enum_lenD ds 0]; exact hl⟩⟩
  obtain ⟨e, he, rfl⟩ := enum_get ds 0 i d hd
  obtain ⟨x, hx, r⟩ := h2.get he
  refine ⟨⟨xs, x, hm gu, hx⟩, fun y H2 z => ?_⟩
  obtain ⟨x', t, z, ht, rfl, rfl⟩ := z
  have := z xs (hm gu)
  rw [hx] at this
  cases this
  refine ⟨same_new ht (.tup [.int i, x]), .newT L ht ?_⟩
  rw [Nat.zero_add]
  exact .cons (.int _) (.cons (r.mono g _ _) .nil)
theorem di_enum (hg : Gl X "enumerate") (hm : X.mg "enumerate" = none) (h : DE X a ma) (hs : starEach [a] X.env = (false, eval a X.env) :: starEach [] X.env := by rfl) (hs' : starEach [a] X.env = [(false, eval a X.env)] := by rfl) :
    DI X (.Tuple elts kt pos') (.Call (.Name "enumerate" p) [a] [] pos) (iEnum ma) := by
  obtain ⟨t, pt, q⟩ := h
  refine ⟨_, pi_enum hg hm (pa_cons pt pa_nil hs) hs', fun os σ H δ xs R s m k => ?_⟩
  obtain ⟨d, e1, m⟩ := bind_inv m
  refine q os σ H δ d _ s e1 fun v H1 g1 r1 => ?_
  cases d with
  | tup ds =>
    cases m
    obtain ⟨a, ys, rfl, h1, h2⟩ := r1.tup_inv
    exact ⟨a, rfl, .inr ⟨⟨ys, .of (hide_le _ _ h1)⟩, k _ H1 g1 (walk_enum (fun g => .of (g _ _ h1)) h2)⟩⟩
  | lst ds =>
    cases m
    obtain ⟨a, ys, rfl, h1, h2⟩ := r1.lst_inv
    exact ⟨a, rfl, .inl ⟨⟨ys, hide_le.seq h1⟩, k _ H1 g1 (walk_enum (fun g => g.seq h1) h2)⟩⟩
  | _ => cases m
end
end DL
namespace DL
open PySem PySem.Spec PyProof.Rows L2
theorem fn_okM {P : Program} {w : World} {K : PySem.W.Frag} {mg : Str → Option Value} {base : Heap} {x qual : Str} {st : Stmt} {f : Addr} {fd : FuncData} {N ps : List Str} {k kk : Nat} {m : MS} {M : MF} (hkk : N.length ≤ kk) (F : Fun K x qual st f fd) (S : FnScope N ps (defScope st))
    (hM : M = fnM ps.length kk m)
    (h : ∀ (cdv : Value) (A : Around) (outer : List Env) (s : Shared) (H : Hp) (E : XK), Room k (A.deeper (envOfC qual (defScope st) s.heap.objs.size f cdv)) →
      DSs (cxOf CX0 P w K mg base N qual (defScope st) f cdv A outer s H E).nox False (defBody st) m) :
    FnOk P w K mg base CX0 (k + 1) f fd ps (spD K M) := by
  rw [hM]
  exact fn_ok hkk F S h
end DL

set_option Elab.async false
set_option linter.all false
/-! The mirror, on: texts, own errors. -/
namespace DL
open PySem
abbrev MX := List D → Option (Option D)
abbrev MEX := Ev → Option (Option D)
/-- no error: its answer alone -/
def okOf (f : MX) : MF := fun ds => (f ds).bind id
def sAsgX (a : MEX) (g : MG) : MS := fun δ => (a δ).bind fun r => match r with
  | some d => (g d δ).bind fun δ' => some (.nx δ')
  | none => some .ex
def sRetX (a : MEX) : MS := fun δ => (a δ).bind fun r => match r with
  | some d => some (.rt d)
  | none => some .ex
def sRaise : MS := fun _ => some .ex
/-- a def -/
def fnX (n k : Nat) (m : MS) : MX := fun ds => if ds.length = n then (m (ds.map some ++ List.replicate (k - n) none)).bind fun r => match r with
    | .rt d => some (some d)
    | .nx _ => some (some .non)
    | .ex => some none
    | _ => none
  else none
def compXM (turn : D → Option (Option (Option D))) : List D → Option (Option (List D))
  | [] => some (some [])
  | x :: xs => (turn x).bind fun o => match o with
    | none => some none
    | some none => compXM turn xs
    | some (some d) => (compXM turn xs).bind fun r => some (r.map fun q => d :: q)
def eCompX (B : Ev → Ev) (i : MI) (g : MG) (c : MT) (e : MEX) : MEX := fun δ => (i δ).bind fun xs => if xs.length ≤ 16777216 then
  (compXM (fun x => (g x (B δ)).bind fun δ1 => (c δ1).bind fun b => if b = true then (e δ1).bind fun r => some (r.map fun d => some d) else some (some none)) xs).bind fun r => some (r.map D.lst)
  else none
/-- sep.join(list of texts) -/
def textsOf : List D → Option (List Str)
  | [] => some []
  | .str x :: r => (textsOf r).bind fun q => some (x :: q)
  | _ => none
/-- the mirror's join; a list alone -/
def oJoin : D → D → Option D
  | .str sep, .lst ds => (textsOf ds).bind fun xs => if JoinOk sep xs = true ∧ (Txt.join sep xs).length ≤ 16777216 then some (.str (Txt.join sep xs)) else none
  | _, _ => none
def oPart : D → D → Option D
  | .str a, .str b => if (b.length == 0) = false ∧ a.length ≤ 16777216 then some (.tup [.str (Txt.partition a b).1, .str (Txt.partition a b).2.1, .str (Txt.partition a b).2.2]) else none
  | _, _ => none
def oSplit : D → D → Option D
  | .str a, .str b => if (b.length == 0) = false ∧ a.length + 2 ≤ 16777216 then some (.lst ((Txt.split a b).map D.str)) else none
  | _, _ => none
def uFmt : D → Option D
  | .int i => if i.natAbs.log2 < 1920 then some (.str (toString i)) else none
  | _ => none
def glueAll (acc : Str) (xs : List Str) : Str := xs.foldl (· ++ ·) acc
def eFstr (a : MA) : ME := fun δ => (a δ).bind fun ds => (textsOf ds).bind fun xs => if (glueAll Str.empty xs).length ≤ 16777216 then some (.str (glueAll Str.empty xs)) else none
abbrev MP := Ev → Option (Option Int)
def pNo : MP := fun _ => some none
def pAt (m : ME) : MP := fun δ => (m δ).bind fun d => match d with | .int i => some (some i) | _ => none
def eSl (a : ME) (lo hi : MP) : ME := fun δ => (a δ).bind fun x => (lo δ).bind fun l => (hi δ).bind fun h => match x with
  | .str t => if t.length ≤ 16777216 then some (.str (Txt.slice t l h)) else none
  | _ => none
def signsD (x : Str) : List D := x.cps.toList.map fun c => D.str ⟨#[c]⟩
def iStr (a : ME) : MI := fun δ => (a δ).bind fun d => match d with | .str x => some (signsD x) | _ => none
def fInt : MF := fun ds => match ds with
  | [.str x] => if x.length ≤ 640 then (PySem.intText? x).bind fun n => some (.int n) else none
  | [.int i] => some (.int i)
  | [.bl b] => some (.int (if b then 1 else 0))
  | _ => none
def isN : D → Bool
  | .non => true
  | _ => false
def uIsN : D → Option D := fun d => some (.bl (isN d))
def uIsNotN : D → Option D := fun d => some (.bl (!isN d))
/-- a tuple of texts that the module has, walked -/
def iC (ds : List D) : MI := fun _ => some ds
def xCall (fn : MX) (m : MA) : MEX := fun δ => (m δ).bind fn
def xOf (a : ME) : MEX := fun δ => (a δ).bind fun d => some (some d)
def xTy (fn : MF) (m : MEX) : MEX := fun δ => (m δ).bind fun r => match r with | some d => (fn [d]).bind fun y => some (some y) | none => some none
/-- n names in all; x's place i, e's place k -/
def sTry (n i k : Nat) (mx : MEX) (d : D) : MS := fun δ => match δ[k]?, δ[n + k]? with
  | some none, none => (mx δ).bind fun r => some (.nx (δ.set i (some (r.getD d))))
  | _, _ => none
end DL

set_option Elab.async false
set_option linter.all false
set_option maxRecDepth 100000
namespace DL
open PySem PySem.Spec PyProof.Rows L2
/-! ### errors of the text's own classes: how they lie behind a call, in a running body, and how they leave it -/
theorem obj_there {P : Program} {w : World} {H : Hp} {h : Heap} {a : Addr} : ∀ {o : HO}, ObjOk P w H h a o → ∃ u, h.get? a = some u
  | .lst xs, x => by obtain ⟨_, _, _, _, e⟩ := x; exact ⟨_, e⟩
  | .tup xs, x => by obtain ⟨_, _, _, o, e, _⟩ := x; exact ⟨_, e⟩
  | .dK kvs, x => by obtain ⟨_, _, _, _, o, _, _, e, _⟩ := x; exact ⟨_, e⟩
  | .dT kvs, x => by obtain ⟨_, _, _, _, o, _, _, e, _⟩ := x; exact ⟨_, e⟩
  | .set S n, x => by obtain ⟨o, _, _, _, e, _⟩ := x; exact ⟨_, e⟩
  | .ins C dx fs, x => by obtain ⟨_, _, _, e, _⟩ := x; exact ⟨_, e⟩
  | .own y, x => x
  | .xd fs, x => by obtain ⟨_, ⟨_, _, _, e, _⟩, _⟩ := x; exact ⟨_, e⟩
  | .rng lo hi, x => by obtain ⟨_, _, _, e⟩ := x; exact ⟨_, e⟩
  | .frz ob u, x => ⟨_, x.1⟩
  | .tbl ps, x => ⟨_, (show h.get? a = some _ from x)⟩
  | .met f y, x => ⟨_, (show h.get? a = some _ from x)⟩
  | .ext φ, x => x.2.1

/-- the error at e: of class cl, its first part a0, its trace's head at T, in flight at fl -/
def ErrT (h : Heap) (e T : Addr) (cl a0 fl : Value) : Prop :=
  ∃ oe vs oT ts, h.get? e = some oe ∧ oe.cls = cl ∧ vs[0]? = some a0 ∧ oe.data = .fields vs ∧ vs[1]? = some (.ref T) ∧ T ≠ e ∧ h.get? T = some oT ∧ oT.data = .fields ts ∧ ts[3]? = some fl
/-- behind a call that raised -/
def CXe (P : Program) (w : World) (cl : Value) : CXT := fun outer H s E e s' => ∃ H' ea T a0, e = .ref ea ∧ s'.os = s.os ∧ AllBare s'.gens ∧ Un (frs outer) [] H H' s.heap s'.heap ∧ HOk P w H' s'.heap ∧ Same H H' ∧
  ErrT s'.heap ea T cl a0 .none ∧ s.heap.get? ea = none ∧ s.heap.get? T = none ∧ H' ea = none ∧ H' T = none ∧ E cl none H'
/-- in a running body; Nw: what is new since the def's entry -/
def ErrIn (X : Cx) (cl : Value) (Nw : Addr → Prop) (e : Value) (s' : Shared) : Prop := ∃ σ H ea T a0 fl, e = .ref ea ∧ Inv X [] σ H s' ∧ Same X.H₀ H ∧ ErrT s'.heap ea T cl a0 fl ∧ Nw ea ∧ Nw T ∧ H ea = none ∧ H T = none
/-- what the context does with such an error -/
def Raises (X : Cx) (cl : Value) (Nw : Addr → Prop) : Prop := ∀ e s', ErrIn X cl Nw e s' → X.xe e s'
def NewOk (X : Cx) (Nw : Addr → Prop) : Prop := ∀ (pins : List (Addr × Obj)) (σ : L2.St) (H : Hp) (s : Shared), Inv X pins σ H s → ∀ b, s.heap.get? b = none → Nw b

section
variable {X : Cx} {cl : Value} {Nw : Addr → Prop}
/-- from a callee's error to one in this body -/
theorem ErrIn.of_call {pins : List (Addr × Obj)} {σ : L2.St} {H : Hp} {s s' : Shared} {E : XK} {e : Value} (I : Inv X pins σ H s) (k0 : Same X.H₀ H) (hn : NewOk X Nw) (h : CXe X.prog X.w cl X.stack H s E e s') : ErrIn X cl Nw e s' := by
  obtain ⟨H', ea, T, a0, rfl, ho, hb, un, hok, sm, et, n1, n2, n3, n4, _⟩ := h
  have I' := I.call' (s' := s') (ch := []) ho un hok hb (fun b z => absurd z (by simp))
  exact ⟨σ, H', ea, T, a0, .none, rfl, I'.pins_of (fun p hp => absurd hp (by simp)), k0.trans sm, et, hn _ _ _ _ I _ n1, hn _ _ _ _ I _ n2, n3, n4⟩
/-! the head of a trace with its flight put out: one change, at T alone -/
def putOut (h : Heap) (T : Addr) : Heap := h.update T (Obj.mapFields fun q => q.setIfInBounds 3 .none)
/-- what an error's trace is made of: the error's object, its parts, the head, the head's parts -/
structure Parts (h base : Heap) (e T : Addr) (cl a0 fl : Value) (oe oT : Obj) (vs ts : Array Value) : Prop where
  e_at : h.get? e = some oe
  e_cl : oe.cls = cl
  e_parts : oe.data = .fields vs
  e_first : vs[0]? = some a0
  e_head : vs[1]? = some (.ref T)
  t_new : base.get? T = none
  t_ne : T ≠ e
  t_at : h.get? T = some oT
  t_parts : oT.data = .fields ts
  t_fl : ts[3]? = some fl
theorem Parts.of {h base : Heap} {e : Addr} {cl a0 fl : Value} (x : h.TracedAtW base e cl a0 fl) : ∃ T oe oT vs ts, Parts h base e T cl a0 fl oe oT vs ts :=
  let ⟨oe, vs, T, oT, ts, a, b, c, d, f, g, i, j, k⟩ := x
  ⟨T, oe, oT, vs, ts, a, b.1, c, b.2, d, f, g, i, j, k⟩
section
variable {h base : Heap} {e T : Addr} {cl a0 fl : Value} {oe oT : Obj} {vs ts : Array Value}
theorem Parts.room (x : Parts h base e T cl a0 fl oe oT vs ts) : 3 < ts.size := let ⟨b, _⟩ := Array.getElem?_eq_some_iff.mp x.t_fl; b
theorem Parts.room1 (x : Parts h base e T cl a0 fl oe oT vs ts) : 1 < vs.size := let ⟨b, _⟩ := Array.getElem?_eq_some_iff.mp x.e_head; b
theorem Parts.else_ (x : Parts h base e T cl a0 fl oe oT vs ts) {b : Addr} (hb : b ≠ T) : (putOut h T).get? b = h.get? b := Heap.get?_update_other h _ hb.symm
/-- no object but a record lies at T -/
theorem Parts.apart (x : Parts h base e T cl a0 fl oe oT vs ts) {b : Addr} {o : Obj} (q : h.get? b = some o) (nf : ∀ ws, o.data ≠ .fields ws) : b ≠ T := by
  rintro rfl
  cases x.t_at.symm.trans q
  exact nf _ x.t_parts
theorem Parts.kept (x : Parts h base e T cl a0 fl oe oT vs ts) {b : Addr} {o : Obj} (q : h.get? b = some o) (nf : ∀ ws, o.data ≠ .fields ws) : (putOut h T).get? b = some o := by rw [x.else_ (x.apart q nf), q]
theorem Parts.stays (x : Parts h base e T cl a0 fl oe oT vs ts) (st : base.StaysIn h) : base.StaysIn (putOut h T) := by
  intro b o q
  rw [x.else_ (by rintro rfl; cases x.t_new.symm.trans q)]
  exact st b o q
theorem Parts.frames (x : Parts h base e T cl a0 fl oe oT vs ts) {l : List Env} (ff : h.FunFrames base l) : (putOut h T).FunFrames base l := ff.of_keeps fun _ o q nf => ⟨o, x.kept q nf, rfl⟩
theorem Parts.e_still (x : Parts h base e T cl a0 fl oe oT vs ts) : (putOut h T).get? e = some oe := by rw [x.else_ x.t_ne.symm, x.e_at]
end
section
variable {M : Model} {A : Around} {E : Value → Shared → Prop} {s : Shared} {base : Heap} {e L : Addr} {cl a0 fl : Value}
/-- the head is read, its flight is another's: put out -/
theorem head_read {α : Type} {T : Addr} {oe oT : Obj} {vs ts : Array Value} {Q : α → Shared → Prop} {k : Value → Sem α} (x : Parts s.heap base e T cl a0 fl oe oT vs ts) (hfl : (fl == rawInt L) = false) {dn : Sem α}
    (h : wpAny M A (k (.ref T)) Q E { s with heap := putOut s.heap T }) :
    wpAny M A (field (.ref e) 1 >>= fun hd => if (hd != .none) = true then field hd 3 >>= fun y => if (y == rawInt L) = true then dn else setField hd 3 .none >>= fun _ => k hd else k hd) Q E s := by
  refine wpAny_bind (wpAny_field x.e_at x.e_parts x.e_head ?_)
  simp only [bne_iff_ne, ne_eq, reduceCtorEq, not_false_eq_true, if_true]
  refine wpAny_bind (wpAny_field x.t_at x.t_parts x.t_fl ?_)
  simp only [hfl, Bool.false_eq_true, if_false]
  exact wpAny_bind (wpAny_setField x.t_at x.t_parts x.room h)
theorem noteFrame_nextF {env env' : Env} {rest : List Env} {Q : Unit → Shared → Prop} (hfr : A.frames = some (env' :: rest)) (hfe : env'.frame = env.frame) (hl : s.heap.FunFrames base (env' :: rest)) (hf : env.frame = some L) (ht : s.heap.TracedAtW base e cl a0 fl) (hfl : (fl == rawInt L) = false)
    (hkb : base.StaysIn s.heap) (hen : base.get? e = none) (h : ∀ h', Heap.NotedW base (env' :: rest) e cl a0 (rawInt L) s.heap h' → Q () { s with heap := h' }) : wpAny M A (noteFrame (.ref e) env) Q E s := by
  obtain ⟨T, oe, oT, vs, ts, x⟩ := Parts.of ht
  have fo : PySem.frameOf env = PySem.frameOf env' := by simp only [PySem.frameOf, hfe]
  unfold noteFrame
  simp only [hf, fo]
  refine head_read x hfl ?_
  refine wpAny_entryW hfr (x.frames hl) (hfe.trans hf) x.e_still (x.stays hkb) hen x.e_parts x.room1 x.e_first fun h' hN => ?_
  rw [x.e_cl] at hN
  exact h h' ⟨hN.1, hN.2.1, hN.2.2.1, fun b o q nf => hN.2.2.2 b o (x.kept q nf) nf⟩
theorem leaving_nextF {env : Env} {outer : List Env} {Q : Unit → Shared → Prop} (hfr : A.frames = some (env :: outer)) (hl : s.heap.FunFrames base (env :: outer)) (hf : env.frame = some L) (ht : s.heap.TracedAtW base e cl a0 fl) (hfl : (fl == rawInt L) = false)
    (hkb : base.StaysIn s.heap) (hen : base.get? e = none) (h : ∀ h', base.StaysIn h' → h'.FunFrames base (env :: outer) → h'.TracedW base e cl a0 → s.heap.UpToSlots h' → Q () { s with heap := h' }) : wpAny M A (leaving env (.ref e)) Q E s := by
  unfold leaving
  refine wpAny_bind (noteFrame_nextF hfr rfl hl hf ht hfl hkb hen fun h1 n1 => ?_)
  exact wpAny_setFlight_noneW n1.1 n1.2.1 n1.2.2.1 fun h2 a b c d => h h2 a b c fun z o q nf => let ⟨sl, q1⟩ := n1.2.2.2 z o q nf; ⟨sl, d z _ q1 nf⟩
end
theorem mem_frs {l : List Env} {env : Env} {a : Addr} (h : env ∈ l) (hf : env.frame = some a) : a ∈ frs l := List.mem_filterMap.mpr ⟨env, h, hf⟩
/-- the frame is left: what the caller sees -/
theorem left_cx {P : Program} {w : World} {K : PySem.W.Frag} {mg : Str → Option Value} {base : Heap} {N : List Str} {qual : Str} {scope : Scope} {f : Addr} {cd : Value} {A : Around} {outer : List Env} {s s1 : Shared} {H H1 : Hp} {E : XK} {σ : L2.St} {ea : Addr} {ex : List Addr} {a0 : Value} {h' : Heap} {pins : List (Addr × Obj)}
    (I : Inv (cxOf (CXe P w cl) P w K mg base N qual scope f cd A outer s H E) pins σ H1 s1) (sm : Same H H1) (hE : E cl none H1) (hx : ∀ b ∈ ex, s.heap.get? b = none ∧ H1 b = none) (n1 : s.heap.get? ea = none) (n3 : H1 ea = none)
    (k1 : (PySem.W.hideAll s1.heap (ex ++ frs (envOfC qual scope s.heap.objs.size f cd :: outer))).StaysIn h') (k2 : h'.FunFrames (PySem.W.hideAll s1.heap (ex ++ frs (envOfC qual scope s.heap.objs.size f cd :: outer))) outer)
    (k3 : h'.TracedW (PySem.W.hideAll s1.heap (ex ++ frs (envOfC qual scope s.heap.objs.size f cd :: outer))) ea cl a0) (k4 : s1.heap.UpToSlots h') (s2 : Shared) (hs2 : s2 = { s1 with heap := h' }) : CXe P w cl outer H s E (.ref ea) s2 := by
  subst hs2
  have un := I.base
  have lt : ∀ b o, s.heap.get? b = some o → b < s.heap.objs.size := fun b o e => Heap.lt_size e
  have frl : ∀ b, b ∈ frs (envOfC qual scope s.heap.objs.size f cd :: outer) → b = s.heap.objs.size ∨ b ∈ frs outer := fun b hb => by
    have := I.stkSub b hb
    rcases List.mem_cons.mp this with z | z
    · exact .inl z
    · exact .inr z
  have inB : ∀ b o, s1.heap.get? b = some o → b ∉ ex → b ≠ s.heap.objs.size → b ∉ frs outer → h'.get? b = some o := fun b o e h1 h2 h3 => k1 b o (PySem.W.hideAll_get _ e fun z => by
    rcases List.mem_append.mp z with z | z
    · exact h1 z
    · rcases frl b z with z | z
      · exact h2 z
      · exact h3 z)
  have nex : ∀ b o, s.heap.get? b = some o → b ∉ ex := fun b o e z => by rw [(hx b z).1] at e; cases e
  have nloc : ∀ b o, s.heap.get? b = some o → b ≠ s.heap.objs.size := fun b o e => Nat.ne_of_lt (lt b o e)
  have frames : ∀ b ∈ frs outer, ∃ o, s1.heap.get? b = some o ∧ ∀ vs, o.data ≠ .fields vs := fun b hb => (I.stack.mem (List.mem_filterMap.mpr (by
    obtain ⟨env, he, hf⟩ := List.mem_filterMap.mp hb
    exact ⟨env, List.mem_cons_of_mem _ he, hf⟩))).2
  have trk : ∀ b u, H1 b = some u → b ∉ ex ∧ b ≠ s.heap.objs.size ∧ b ∉ frs outer := fun b u e => by
    refine ⟨fun z => ?_, fun z => ?_, fun z => ?_⟩
    · rw [(hx b z).2] at e; cases e
    · have : H1 s.heap.objs.size = none := I.free
      rw [z, this] at e; cases e
    · have : H1 b = none := I.stkFree b (by
        obtain ⟨env, he, hf⟩ := List.mem_filterMap.mp z
        exact List.mem_filterMap.mpr ⟨env, List.mem_cons_of_mem _ he, hf⟩)
      rw [this] at e; cases e
  obtain ⟨oe, vs, T, oT, ts, he, ⟨hc, h0⟩, hd, h1, hnT, hTe, hT, hdT, h3⟩ := k3
  have hT0 : ∀ o, s1.heap.get? T = some o → T ∉ frs outer → T ≠ s.heap.objs.size → T ∉ ex → False := fun o e a b c => by
    have := PySem.W.hideAll_get (ex ++ frs (envOfC qual scope s.heap.objs.size f cd :: outer)) e (fun z => by
      rcases List.mem_append.mp z with z | z
      · exact c z
      · rcases frl T z with z | z
        · exact b z
        · exact a z)
    rw [hnT] at this; cases this
  have Tfr : T ∉ frs outer := fun z => by
    obtain ⟨_, o, e, nf⟩ := k2.mem z
    rw [hT] at e
    cases e
    exact nf ts hdT
  refine ⟨H1, ea, T, a0, rfl, I.os, I.bare, ⟨fun b o e n hb _ => ?_, fun b o e n hb _ => ?_, fun b o e n hb => un.free b o e n hb, fun b o e _ => ?_, un.tups, un.frzs, un.tbls⟩, fun b u e => ?_, sm, ⟨oe, vs, oT, ts, he, hc, h0, hd, h1, hTe, hT, hdT, h3⟩, n1, ?_, n3, ?_, hE⟩
  · exact inB b o (un.keep b o e n hb (by intro z; exact absurd (show b ∈ ([] : List Addr) from z) (by simp))) (nex b o e) (nloc b o e) hb
  · obtain ⟨sl, q⟩ := un.slot b o e n hb (by intro z; exact absurd (show b ∈ ([] : List Addr) from z) (by simp))
    obtain ⟨o', q', nf⟩ := frames b hb
    rw [q] at q'
    cases q'
    obtain ⟨sl', q2⟩ := k4 b _ q nf
    exact ⟨sl', q2⟩
  · obtain ⟨o', q⟩ := un.there b o e (by intro z; exact absurd (show b ∈ ([] : List Addr) from z) (by simp))
    by_cases hb : b ∈ frs outer
    · obtain ⟨o2, q2, nf⟩ := frames b hb
      obtain ⟨sl, q3⟩ := k4 b o2 q2 nf
      exact ⟨_, q3⟩
    · exact ⟨o', inB b o' q (nex b o e) (nloc b o e) hb⟩
  · refine (I.hok b u e).stay (fun c v hc q => ?_) (fun _ q => q) fun _ _ q => q
    have tr : b ∉ ex ∧ b ≠ s.heap.objs.size ∧ b ∉ frs outer := trk b u e
    rcases hc with rfl | hc
    · exact inB c v q tr.1 tr.2.1 tr.2.2
    · have tr := trk c _ hc
      exact inB c v q tr.1 tr.2.1 tr.2.2
  · cases q : s.heap.get? T with
    | none => rfl
    | some o =>
      exfalso
      obtain ⟨o', q'⟩ := un.there T o q (by intro z; exact absurd (show T ∈ ([] : List Addr) from z) (by simp))
      exact hT0 o' q' Tfr (nloc T o q) (nex T o q)
  · cases q : H1 T with
    | none => rfl
    | some u =>
      exfalso
      obtain ⟨o', q'⟩ := obj_there (I.hok T u q)
      have tr := trk T u q
      exact hT0 o' q' Tfr tr.2.1 tr.1
/-- an error in a def's body leaves it -/
theorem raises_def {P : Program} {w : World} {K : PySem.W.Frag} {mg : Str → Option Value} {base : Heap} {N : List Str} {qual : Str} {scope : Scope} {f : Addr} {cd : Value} {A : Around} {outer : List Env} {s : Shared} {H : Hp} {E : XK} (hE : ∀ H', Same H H' → E cl none H') :
    Raises (cxOf (CXe P w cl) P w K mg base N qual scope f cd A outer s H E) cl (fun b => s.heap.get? b = none) := by
  rintro e s1 ⟨σ, H1, ea, T, a0, fl, rfl, I, sm, et, n1, n2, n3, n4⟩
  obtain ⟨oe, vs, oT, ts, he, hc, h0, hd, h1, hTe, hT, hdT, h3⟩ := et
  have hin : ∀ env ∈ (envOfC qual scope s.heap.objs.size f cd :: outer), ∀ b, env.frame = some b → b ∈ ([ea, T] ++ frs (envOfC qual scope s.heap.objs.size f cd :: outer)) := fun env he b hb => List.mem_append_right _ (mem_frs he hb)
  have ff := PySem.W.funFrames_hide (as := [ea, T] ++ frs (envOfC qual scope s.heap.objs.size f cd :: outer)) (show s1.heap.FunFrames base (envOfC qual scope s.heap.objs.size f cd :: outer) from I.stack) hin
  have st : (PySem.W.hideAll s1.heap ([ea, T] ++ frs (envOfC qual scope s.heap.objs.size f cd :: outer))).StaysIn s1.heap := fun b o q => PySem.W.of_hideAll _ q
  have en : (PySem.W.hideAll s1.heap ([ea, T] ++ frs (envOfC qual scope s.heap.objs.size f cd :: outer))).get? ea = none := PySem.W.hideAll_none _ (by simp)
  have tn : (PySem.W.hideAll s1.heap ([ea, T] ++ frs (envOfC qual scope s.heap.objs.size f cd :: outer))).get? T = none := PySem.W.hideAll_none _ (by simp)
  have ta : s1.heap.TracedAtW (PySem.W.hideAll s1.heap ([ea, T] ++ frs (envOfC qual scope s.heap.objs.size f cd :: outer))) ea cl a0 fl := ⟨oe, vs, T, oT, ts, he, ⟨hc, h0⟩, hd, h1, tn, hTe, hT, hdT, h3⟩
  have hfr : (A.deeper (envOfC qual scope s.heap.objs.size f cd)).frames = some (envOfC qual scope s.heap.objs.size f cd :: outer) := I.ok.frames
  have hx : ∀ b ∈ [ea, T], s.heap.get? b = none ∧ H1 b = none := fun b hb => by
    rcases List.mem_cons.mp hb with rfl | hb
    · exact ⟨n1, n3⟩
    · rw [List.mem_singleton.mp hb]; exact ⟨n2, n4⟩
  show wpAny (model P w) (A.deeper (envOfC qual scope s.heap.objs.size f cd)) (leaving (envOfC qual scope s.heap.objs.size f cd) (.ref ea)) _ _ s1
  cases hfl : (fl == rawInt s.heap.objs.size) with
  | false =>
    refine leaving_nextF hfr ff rfl ta hfl st en fun h' k1 k2 k3 k4 => ?_
    obtain ⟨_, _, k2⟩ := k2
    exact left_cx I sm (hE _ sm) hx n1 n3 k1 k2 k3 k4 _ rfl
  | true =>
    have e : fl = rawInt s.heap.objs.size := eq_of_beq hfl
    subst e
    unfold leaving
    refine wpAny_bind (wpAny_noteFrame_againW rfl ta (wpAny_landsW (⟨st, en, ff, ta⟩ : Heap.HeldW _ _ ea cl a0 s.heap.objs.size s1.heap) fun h' hfl k4 => ?_))
    obtain ⟨k1, _, ⟨_, _, k2⟩, k3⟩ := hfl
    exact left_cx I sm (hE _ sm) hx n1 n3 k1 k2 k3 k4 _ rfl
/-- an error made here leaves the def -/
theorem made_def {P : Program} {w : World} {K : PySem.W.Frag} {mg : Str → Option Value} {base : Heap} {N : List Str} {qual : Str} {scope : Scope} {f : Addr} {cd : Value} {A : Around} {outer : List Env} {s : Shared} {H : Hp} {E : XK} (hE : ∀ H', Same H H' → E cl none H')
    {pins : List (Addr × Obj)} {σ : L2.St} {H1 : Hp} {s1 : Shared} {h1 : Heap} {ea : Addr} {us : List Value} (I : Inv (cxOf (CXe P w cl) P w K mg base N qual scope f cd A outer s H E) pins σ H1 s1) (sm : Same H H1) (mk : Heap.MadeExcOf s1.heap h1 ea cl us) :
    (cxOf (CXe P w cl) P w K mg base N qual scope f cd A outer s H E).xe (.ref ea) { s1 with heap := h1 } := by
  have hin : ∀ env ∈ (envOfC qual scope s.heap.objs.size f cd :: outer), ∀ b, env.frame = some b → b ∈ ([] ++ frs (envOfC qual scope s.heap.objs.size f cd :: outer)) := fun env he b hb => List.mem_append_right _ (mem_frs he hb)
  have ff := PySem.W.funFrames_hide (as := [] ++ frs (envOfC qual scope s.heap.objs.size f cd :: outer)) (show s1.heap.FunFrames base (envOfC qual scope s.heap.objs.size f cd :: outer) from I.stack) hin
  have st : (PySem.W.hideAll s1.heap ([] ++ frs (envOfC qual scope s.heap.objs.size f cd :: outer))).StaysIn s1.heap := fun b o q => PySem.W.of_hideAll _ q
  have hfr : (A.deeper (envOfC qual scope s.heap.objs.size f cd)).frames = some (envOfC qual scope s.heap.objs.size f cd :: outer) := I.ok.frames
  have n1 : s.heap.get? ea = none := by
    cases q : s.heap.get? ea with
    | none => rfl
    | some o =>
      obtain ⟨o', q'⟩ := I.base.there ea o q (by intro z; exact absurd (show ea ∈ ([] : List Addr) from z) (by simp))
      rw [mk.new] at q'
      cases q'
  have n3 : H1 ea = none := by
    cases q : H1 ea with
    | none => rfl
    | some u =>
      obtain ⟨o', q'⟩ := obj_there (I.hok ea u q)
      rw [mk.new] at q'
      cases q'
  show wpAny (model P w) (A.deeper (envOfC qual scope s.heap.objs.size f cd)) (leaving (envOfC qual scope s.heap.objs.size f cd) (.ref ea)) _ _ _
  refine wpAny_leaves_madeW (h := s1.heap) hfr rfl st ff mk fun h' t hfl _ _ k4 => ?_
  obtain ⟨k1, _, k2, k3⟩ := hfl
  exact left_cx I sm (hE _ sm) (fun b hb => absurd hb (by simp)) n1 n3 k1 k2 k3 ((Heap.UpToSlots.of_keeps mk.keeps).trans k4) _ rfl
theorem new_def {CX : CXT} {P : Program} {w : World} {K : PySem.W.Frag} {mg : Str → Option Value} {base : Heap} {N : List Str} {qual : Str} {scope : Scope} {f : Addr} {cd : Value} {A : Around} {outer : List Env} {s : Shared} {H : Hp} {E : XK} :
    NewOk (cxOf CX P w K mg base N qual scope f cd A outer s H E) (fun b => s.heap.get? b = none) := by
  intro pins σ H1 s1 I b hb
  cases q : s.heap.get? b with
  | none => rfl
  | some o =>
    obtain ⟨o', q'⟩ := I.base.there b o q (by intro z; exact absurd (show b ∈ ([] : List Addr) from z) (by simp))
    rw [hb] at q'
    cases q'

/-! ### what a def that may raise promises; expressions and statements that may raise -/
def REnd (R : Prop) (F : D → Prop) : Option D → Prop
  | some d => F d
  | none => R
def spX (K : PySem.W.Frag) (f : MX) : Sp := fun vs H Q E => ∃ os ds r, Live os H ∧ Dens K (hide os H) ds vs ∧ f ds = some r ∧ REnd (∀ c H', Same H H' → E c none H') (fun d => Fin K os H d Q) r
def DX (X : Cx) (cl : Value) (Nw : Addr → Prop) (e : Expr) (m : MEX) : Prop := ∃ t : TE, PE X e t ∧ ∀ os σ H δ r Q, Sl X os H δ σ → m δ = some r → REnd (Raises X cl Nw) (fun d => Fin X.K os H d Q) r → t σ H Q

variable {a b e : Expr} {es : List Expr} {ma mb me : ME} {pos p : Pos}
theorem dx_of (h : DE X e me) : DX X cl Nw e (fun δ => (me δ).bind fun d => some (some d)) := by
  obtain ⟨t, p, q⟩ := h
  refine ⟨t, p, fun os σ H δ r Q s m k => ?_⟩
  obtain ⟨d, e1, m⟩ := bind_inv m
  cases m
  exact q os σ H δ d Q s e1 k
def tCallX (X : Cx) (cl : Value) (Nw : Addr → Prop) (sp : Sp) (t : TA) : TE := fun σ H Q => t σ H fun vs H1 => Same X.H₀ H1 ∧ sp vs H1 Q (fun c _ _ => c = cl → Raises X cl Nw)
theorem pe_callX {f : Addr} {fd : FuncData} {ps : List Str} {k : Nat} {x : Str} {sp : Sp} {t : TA} (hn : NewOk X Nw) (F : FnOk X.prog X.w X.K X.mg X.base (CXe X.prog X.w cl) k f fd ps sp) (hr : Room k X.A) (hg : Gl X x) (hm : X.mg x = some (.ref f)) (hk : PySem.W.keepIn X.K (.ref f) = true) (hb : Binds X.K fd ps [])
    (ha : PA X (e :: es) t) (hdb : (x == ("__debug__" : Str)) = false := by decide) (he : starEach (e :: es) X.env = (false, eval e X.env) :: starEach es X.env := by rfl) (hpl : (backTo pos (starEach es X.env)).any (·.1) = false := by rfl) :
    PE X (.Call (.Name x p) (e :: es) [] pos) (tCallX X cl Nw sp t) := by
  intro pins s σ H Q I h
  refine wpAny_Call_Name_kw (ld_glob I hg hm ?_ hdb)
  refine PySem.W.callWith_K (h₀ := X.base) I.ok.mod.kin hk (thn (ha pos pins s σ H _ I h) fun us s1 ⟨vs, H1, I1, r, k0, q⟩ => ⟨I1.kIn, ?_⟩) he hpl
  have hl : us.length = ps.length := by rw [← r.length]; exact F.len _ _ _ _ q
  have hb' := hb s1 us I1.kIn (by rw [List.append_nil]; exact hl)
  rw [List.append_nil] at hb'
  refine wpAny_call (codeAny_mono (F.run X.A X.stack s1 H1 ⟨us, []⟩ us vs Q _ hr I1.env0 hb' r q) fun res s' hq => ?_)
  cases res with
  | error e =>
    have hq' : CXe X.prog X.w cl X.stack H1 s1 (fun c _ _ => c = cl → Raises X cl Nw) e s' := hq
    have he := ErrIn.of_call (Nw := Nw) I1 k0 hn hq'
    obtain ⟨H', ea, T, a0, e1, ho, hbr, un, hok, sm, et, n1, n2, n3, n4, hR⟩ := hq'
    exact hR rfl e s' he
  | ok fl =>
    cases fl with
    | ret u => exact I1.after hq
    | next => exact False.elim hq
    | brk => exact False.elim hq
    | cont => exact False.elim hq
theorem dx_call {f : Addr} {fd : FuncData} {ps : List Str} {k : Nat} {x : Str} {fn : MX} {m : MA} (hn : NewOk X Nw) (F : FnOk X.prog X.w X.K X.mg X.base (CXe X.prog X.w cl) k f fd ps (spX X.K fn)) (hr : Room k X.A) (hg : Gl X x) (hm : X.mg x = some (.ref f)) (hk : PySem.W.keepIn X.K (.ref f) = true) (hb : Binds X.K fd ps [])
    (ha : DA X (e :: es) m) (hdb : (x == ("__debug__" : Str)) = false := by decide) (he : starEach (e :: es) X.env = (false, eval e X.env) :: starEach es X.env := by rfl) (hpl : (backTo pos (starEach es X.env)).any (·.1) = false := by rfl) :
    DX X cl Nw (.Call (.Name x p) (e :: es) [] pos) (fun δ => (m δ).bind fn) := by
  obtain ⟨hl, t, pt, q⟩ := ha
  refine ⟨_, pe_callX hn F hr hg hm hk hb pt hdb he hpl, fun os σ H δ r Q s m k => ?_⟩
  obtain ⟨ds, e1, m⟩ := bind_inv m
  refine q os σ H δ ds _ s e1 fun vs H1 g1 r1 => ⟨s.keep.trans g1, os, ds, r, s.live.mono g1, r1, m, ?_⟩
  cases r with
  | some d => exact Fin.mono g1 k
  | none => exact fun c H' _ _ => k
/-- where it does not raise -/
theorem de_callX {f : Addr} {fd : FuncData} {ps : List Str} {k : Nat} {x : Str} {fn : MX} {m : MA} (F : FnOk X.prog X.w X.K X.mg X.base (CXe X.prog X.w cl) k f fd ps (spX X.K fn)) (hr : Room k X.A) (hg : Gl X x) (hm : X.mg x = some (.ref f)) (hk : PySem.W.keepIn X.K (.ref f) = true) (hb : Binds X.K fd ps [])
    (ha : DA X (e :: es) m) (hdb : (x == ("__debug__" : Str)) = false := by decide) (he : starEach (e :: es) X.env = (false, eval e X.env) :: starEach es X.env := by rfl) (hpl : (backTo pos (starEach es X.env)).any (·.1) = false := by rfl) :
    DE X (.Call (.Name x p) (e :: es) [] pos) (eCall (okOf fn) m) := by
  obtain ⟨hl, t, pt, q⟩ := ha
  refine ⟨_, pe_call (E := fun _ _ _ => False) F hr hg hm hk hb .nil (fun pins σ H s e s' I h => ?_) pt hdb he hpl, fun os σ H δ d Q s m k => ?_⟩
  · obtain ⟨_, _, _, _, _, _, _, _, _, _, _, _, _, _, _, z⟩ := h
    exact z.elim
  · obtain ⟨ds, e1, m⟩ := bind_inv m
    obtain ⟨r, e2, m⟩ := bind_inv m
    have m' : r = some d := m
    subst m'
    refine q os σ H δ ds _ s e1 fun vs H1 g1 r1 => ?_
    rw [List.append_nil]
    exact ⟨os, ds, some d, s.live.mono g1, r1, e2, Fin.mono g1 k⟩
/-- tuple(e), list(e) .. of what may raise -/
theorem dx_callTy {T : String} {x : Str} {fn : MF} {m : MEX} (hc : CallD X (.type T) fn) (hg : Gl X x) (hm : X.mg x = none) (hv : bootBuiltins x = some (.type T)) (ha : DX X cl Nw e m) (hn : x ≠ "__name__" := by decide) (hdb : (x == ("__debug__" : Str)) = false := by decide)
    (hs : starEach [e] X.env = (false, eval e X.env) :: starEach [] X.env := by rfl) (he : starEach [e] X.env = (false, eval e X.env) :: starEach [] X.env := by rfl) (hpl : (backTo pos (starEach [] X.env)).any (·.1) = false := by rfl) :
    DX X cl Nw (.Call (.Name x p) [e] [] pos) (fun δ => (m δ).bind fun r => match r with | some d => (fn [d]).bind fun y => some (some y) | none => some none) := by
  obtain ⟨r, hr, qr⟩ := hc
  obtain ⟨t, pt, q⟩ := ha
  refine ⟨_, pe_callTy hr hg hm hv (pa_cons pt pa_nil hs) hn hdb he hpl, fun os σ H δ z Q s m k => ?_⟩
  obtain ⟨y, e1, m⟩ := bind_inv m
  refine q os σ H δ y _ s e1 ?_
  cases y with
  | none => cases m; exact k
  | some d =>
    obtain ⟨y, e2, m⟩ := bind_inv m
    cases m
    exact fun v H1 g1 r1 => qr os H1 (s.live.mono g1) [d] y [v] Q (.cons r1 .nil) e2 (Fin.mono g1 k)
/-! statements -/
variable {PX : Prop} {tg : Expr} {mx : MEX}
theorem ds_retX (hP : PX → Raises X cl Nw) (h : DX X cl Nw e mx) : DS X PX (.Return (some e) pos) (sRetX mx) := by
  obtain ⟨t, p, q⟩ := h
  refine ⟨_, ps_ret p, fun os σ H δ r D s m k => ?_⟩
  obtain ⟨y, e1, m⟩ := bind_inv m
  refine q os σ H δ y _ s e1 ?_
  cases y with
  | none => cases m; exact hP k
  | some d => cases m; exact fun v H' g r => k v H' os (.of g) (s.keep.trans g) r
theorem ds_asgX {g : MG} (hP : PX → Raises X cl Nw) (he : DX X cl Nw e mx) (hg : DG X tg g) (hs : swapsWithSole [tg] e pos.line X.env = pure false := by rfl) (hw : swappedStores [tg] e X.env = pure none := by rfl)
    (h1 : (assignEach [tg] X.env).map (·.2) = [assign tg X.env] := by rfl) : DS X PX (.Assign [tg] e pos) (sAsgX mx g) := by
  obtain ⟨t, p, q⟩ := he
  obtain ⟨t', p', q'⟩ := hg
  refine ⟨_, ps_asg p p' hs hw h1, fun os σ H δ r D s m k => ?_⟩
  obtain ⟨y, e1, m⟩ := bind_inv m
  refine q os σ H δ y _ s e1 ?_
  cases y with
  | none => cases m; exact hP k
  | some d =>
    obtain ⟨δ', e2, m⟩ := bind_inv m
    cases m
    exact fun v H1 g1 r1 => q' os v σ H1 d δ δ' _ (s.mono g1) r1 e2 fun σ2 H2 g2 s2 => k σ2 H2 os (.of (g1.trans g2)) s2
/-- what the context does with an error made here -/
def RaisesM (X : Cx) (cl : Value) : Prop := ∀ (pins : List (Addr × Obj)) (σ : L2.St) (H : Hp) (s : Shared) (h' : Heap) (ea : Addr) (us : List Value), Inv X pins σ H s → Same X.H₀ H → Heap.MadeExcOf s.heap h' ea cl us → X.xe (.ref ea) { s with heap := h' }
/-- how an own error class lies in a heap that has the part K -/
theorem own_mk {K : PySem.W.Frag} {h : Heap} {mg : Str → Option Value} {x : Str} {C : Addr} {bmB : List Value} {newId : String} (X : K.In h) (hm : mg x = some (.ref C)) (q : PySem.W.excIn K C bmB newId = true) : OwnCls x C bmB newId mg h := by
  cases hl : K.lookup C with
  | none => simp [PySem.W.excIn, hl] at q
  | some o =>
    have at_C := X C o hl
    simp only [PySem.W.excIn, hl] at q
    split at q <;> try cases q
    rename_i _ dd cd sl e
    cases e
    split at q <;> try cases q
    rename_i C' bm k0 k1 k2 k3 n k5 hmro hsl
    simp only [beq_iff_eq, Bool.not_eq_true', Bool.and_eq_true] at q
    obtain ⟨⟨⟨⟨⟨q1, q2⟩, q3⟩, q4⟩, q5⟩, q6⟩ := q
    refine ⟨hm, bm, cd.ns, cd.name, cd.qualname, cd.bases, cd.hasDict, cd.slotNames, cd.subclasses, cd.abstract, cd.collection, dd, k0, k1, k2, k3, k5, _, ?_, .of_isNs (PySem.W.isNs_of_in X q5), PySem.W.nsMap_none_of_in X q5 q6, PySem.W.tail_of_in X q4⟩
    have e1 : sl = #[k0, k1, k2, k3, some (.builtin newId), k5] := by
      rw [← q2]
      exact Array.toList_inj.mp hsl
    have e2 : cd = { name := cd.name, bases := cd.bases, mro := .ref C :: bm, ns := cd.ns, qualname := cd.qualname, hasDict := cd.hasDict, slotNames := cd.slotNames, subclasses := cd.subclasses, abstract := cd.abstract, collection := cd.collection, hasDel := false } := by
      rw [← q1, ← hmro, ← q3]
    rw [at_C, e1]
    exact congrArg (fun z => some (Obj.mk (.type "type") dd (.cls z) _)) e2
/-- raise C(text), C an error class of the text's own; hq: how the class lies in the module's part -/
theorem ds_raiseK {C : Addr} {x : Str} {np cpos : Pos} {z : Str} {j : Nat} {zp : Pos} {B newId initId : String} {bmB : List Value} (hc : X.calm = true) (hP : PX → RaisesM X (.ref C)) (hg : Gl X x) (hm : X.mg x = some (.ref C)) (hq : PySem.W.excIn X.K C bmB newId = true) (FB : ExcBaseFacts B newId initId bmB)
    (hdb : (x == ("__debug__" : Str)) = false := by decide) (hs : starEach [.Constant (.str z) j zp] X.env = (false, eval (.Constant (.str z) j zp) X.env) :: starEach [] X.env := by rfl)
    (hplain : (backTo cpos (starEach [.Constant (.str z) j zp] X.env)).any (·.1) = false := by rfl) :
    DS X PX (.Raise (some (.Call (.Name x np) [.Constant (.str z) j zp] [] cpos)) none pos) sRaise := by
  refine ⟨fun D σ H => Same X.H₀ H ∧ RaisesM X (.ref C), ?_, fun os σ H δ r D s m k => by cases m; exact ⟨s.keep, hP k⟩⟩
  rintro pins s σ H D I ⟨k0, hR⟩
  have O := own_mk I.ok.mod.kin hm hq
  obtain ⟨c1, c2, c3, c4, c5, c6, c7, c8, c9, c10, c11, c12, c13, c14, c15, c16, c17, hC, hN, hni, TL⟩ := (O.keeps I.bk).obj
  refine wpAny_Raise_call_subT (bm := c1) (N := c2) (nm := c3) (q := c4) (bs := c5) (hdct := c6) (sn := c7) (sub := c8) (ab := c9) (col := c10) (dd := c11) (k0 := c12) (k1 := c13) (k2 := c14) (k3 := c15) (k5 := c16) (mN := c17) FB (TL.hasType FB.hasBase) (I.ok.hd hc) hplain hni (ld_glob I hg O.bound ⟨rfl, ?_⟩ hdb)
  rw [hs]
  exact Calls.evalArgs_plain (Calls.spliced_cons (Calls.Constant_str (k := j) (pos := zp) (Calls.spliced_nil
    ⟨rfl, by rw [sizeLine_eq]; show 1 ≤ 16777216; decide, hC, hN, TL, fun h' e mk => hR pins σ H _ h' e _ (I.tok _) k0 mk⟩)))
theorem fn_okX {P : Program} {w : World} {K : PySem.W.Frag} {mg : Str → Option Value} {base : Heap} {x qual : Str} {st : Stmt} {f : Addr} {fd : FuncData} {N ps : List Str} {k kk : Nat} {m : MS} {M : MX} (hkk : N.length ≤ kk) (F : Fun K x qual st f fd) (S : FnScope N ps (defScope st)) (hM : M = fnX ps.length kk m)
    (h : ∀ (cdv : Value) (A : Around) (outer : List Env) (s : Shared) (H : Hp) (E : XK), Room k (A.deeper (envOfC qual (defScope st) s.heap.objs.size f cdv)) →
      DSs (cxOf (CXe P w cl) P w K mg base N qual (defScope st) f cdv A outer s H E) (Raises (cxOf (CXe P w cl) P w K mg base N qual (defScope st) f cdv A outer s H E) cl (fun b => s.heap.get? b = none) ∧ RaisesM (cxOf (CXe P w cl) P w K mg base N qual (defScope st) f cdv A outer s H E) cl) (defBody st) m) :
    FnOk P w K mg base (CXe P w cl) (k + 1) f fd ps (spX K M) := by
  subst hM
  have hpl : ps.length ≤ N.length := by have := congrArg List.length S.pre; rw [List.length_take] at this; omega
  have inv : ∀ ds r, fnX ps.length kk m ds = some r → ds.length = ps.length ∧ ((∃ d, r = some d ∧ m (ds.map some ++ List.replicate (kk - ps.length) none) = some (.rt d)) ∨ (∃ δ, m (ds.map some ++ List.replicate (kk - ps.length) none) = some (.nx δ) ∧ r = some .non) ∨ (r = none ∧ m (ds.map some ++ List.replicate (kk - ps.length) none) = some .ex)) := by
    intro ds r e
    unfold fnX at e
    split at e
    · rename_i hl
      obtain ⟨q, e1, e⟩ := bind_inv e
      refine ⟨hl, ?_⟩
      cases q with
      | rt d => cases e; exact .inl ⟨d, rfl, e1⟩
      | nx δ => cases e; exact .inr (.inl ⟨δ, e1, rfl⟩)
      | ex => cases e; exact .inr (.inr ⟨rfl, e1⟩)
      | bk δ => cases e
      | ct δ => cases e
    · cases e
  obtain ⟨oc, od, kV, doc, pm, an, cdv, ct, osl, rfl, lk, hcd⟩ := F.ex
  refine fn_of lk hcd S (fun vs H Q E hq => ?_) (fun A outer s H vs Q E hr hq => ?_)
  · obtain ⟨os, ds, r, L, d, e, _⟩ := hq
    rw [← d.length]
    exact (inv ds r e).1
  · obtain ⟨os, ds, r, L, d, e, kq⟩ := hq
    obtain ⟨t, p, q⟩ := h cdv A outer s H E hr
    obtain ⟨hl, e2⟩ := inv ds r e
    have s0 := sl_start (X := cxOf (CXe P w cl) P w K mg base N qual (defScope st) f cdv A outer s H E) (kk := kk) L rfl d hl hpl hkk
    refine ⟨t, p, ?_⟩
    rcases e2 with ⟨d', rfl, e2⟩ | ⟨δ, e2, rfl⟩ | ⟨rfl, e2⟩
    · have kq' : Fin K os H d' Q := kq
      refine q os _ H _ (.rt d') _ s0 e2 fun v H' os' fr sm dn => kq' v H' sm (dn.mono (fun b o z => ?_) _ _)
      have hb : b ∉ os' := fun y => by rw [hide_on y] at z; cases z
      rw [hide_off hb] at z
      have hb2 : b ∉ os := fun y => hb (fr.2 b y fun n => by
        obtain ⟨o', e', _⟩ := L b y
        have n' : H b = none := n
        rw [n'] at e'
        cases e')
      rw [hide_off hb2]
      exact z
    · have kq' : Fin K os H .non Q := kq
      exact q os _ H _ (.nx δ) _ s0 e2 fun σ H' os' fr sl => kq' .non H' sl.keep .non
    · have kq' : ∀ c H', Same H H' → E c none H' := kq
      exact q os _ H _ .ex _ s0 e2 ⟨raises_def (kq' cl), fun pins σ H1 s1 h1 ea us I sm mk => made_def (kq' cl) I sm mk⟩
end
end DL

set_option Elab.async false
set_option linter.all false
set_option maxRecDepth 100000
namespace DL
open PySem PySem.Spec PyProof.Rows L2
/-! ### a comprehension whose items may raise -/
theorem Sl.wish {X : Cx} {os : List Addr} {H : Hp} {δ : Ev} {σ : L2.St} (s : Sl X os H δ σ) (E : Value → Shared → Prop) : Sl (X.wish E) os H δ σ := ⟨s.n, s.len, s.pl, s.ow, s.inj, s.live, s.keep⟩
theorem Sl.unwish {X : Cx} {os : List Addr} {H : Hp} {δ : Ev} {σ : L2.St} {E : Value → Shared → Prop} (s : Sl (X.wish E) os H δ σ) : Sl X os H δ σ := ⟨s.n, s.len, s.pl, s.ow, s.inj, s.live, s.keep⟩
theorem ErrIn.unwish {X : Cx} {cl : Value} {Nw : Addr → Prop} {E : Value → Shared → Prop} {e : Value} {s : Shared} (h : ErrIn (X.wish E) cl Nw e s) : ErrIn X cl Nw e s := by
  obtain ⟨σ, H, ea, T, a0, fl, rfl, I, r⟩ := h
  exact ⟨σ, H, ea, T, a0, fl, rfl, I.unwish, r⟩
theorem thn2 {α : Type} {M : Model} {A : Around} {t : Sem α} {Q Q' : α → Shared → Prop} {E E' : Value → Shared → Prop} {s : Shared} (h : wpAny M A t Q E s) (f : ∀ v s', Q v s' → Q' v s') (g : ∀ v s', E v s' → E' v s') : wpAny M A t Q' E' s := wpAny_mono h f g
section
variable {X : Cx} {scX sc : Scope} {NX N : List Str} {k : Nat} {fv : List Nat} {cl : Value} {Nw : Addr → Prop}
/-- an error in the block goes on in the def -/
theorem block_err {pins : List (Addr × Obj)} {σ : L2.St} {H2 : Hp} {s2 s' : Shared} {fp : List Addr} {C : Addr} {e : Value} (hst : X.stack = X.env :: X.outer ∧ X.env.frame = some X.env.locals) (hex : X.ex = []) (hNw : ∀ b, X.s₀.heap.objs.size ≤ b → Nw b) (hn : NewOk X Nw)
    (I2 : Inv X pins σ H2 s2) (hf : ∀ b ∈ fp, FpOk X pins H2 b) (hC : s2.heap.objs.size ≤ C) (k0 : Same X.H₀ H2) (hR : Raises X cl Nw)
    (h : ErrIn (cxB X sc N C s2 H2 fp) cl (fun b => Nw b ∧ (b ∈ fp ∨ s2.heap.get? b = none)) e s') :
    notedBy (model X.prog X.w) X.A (compEnvC sc (clOf X.env.cells sc.names) C X.env) (fun x s'' => ∃ m, s''.heap.Ns C m ∧ ∀ h', Heap.SameBut C s''.heap h' → ∀ cenv : Env, cenv.locals = C → wpAny (model X.prog X.w) X.A (PySem.passOn "comprehension.variables-let-go" x cenv : Sem Value) (fun _ _ => False) X.xe { s'' with heap := h' }) e s' := by
  obtain ⟨σ', H', ea, T, a0, fl, rfl, J, sm, et, ⟨n1, n1'⟩, ⟨n2, n2'⟩, n3, n4⟩ := h
  obtain ⟨oe, vs, oT, ts, he, hc, h0, hd, h1, hTe, hT, hdT, h3⟩ := et
  have hfr : X.A.frames = some X.stack := J.ok.frames
  have hin : ∀ env ∈ X.stack, ∀ b, env.frame = some b → b ∈ ([ea, T] ++ frs X.stack) := fun env he b hb => List.mem_append_right _ (mem_frs he hb)
  have ff := PySem.W.funFrames_hide (as := [ea, T] ++ frs X.stack) (show s'.heap.FunFrames X.base X.stack from J.stack) hin
  generalize hBB : PySem.W.hideAll s'.heap ([ea, T] ++ frs X.stack) = BB at ff
  have st : BB.StaysIn s'.heap := fun b o q => PySem.W.of_hideAll _ (hBB ▸ q)
  have en : BB.get? ea = none := by rw [← hBB]; exact PySem.W.hideAll_none _ (by simp)
  have tn : BB.get? T = none := by rw [← hBB]; exact PySem.W.hideAll_none _ (by simp)
  have ta : s'.heap.TracedAtW BB ea cl a0 fl := ⟨oe, vs, T, oT, ts, he, ⟨hc, h0⟩, hd, h1, tn, hTe, hT, hdT, h3⟩
  have inB : ∀ b o, s'.heap.get? b = some o → b ≠ ea → b ≠ T → b ∉ frs X.stack → BB.get? b = some o := fun b o q q1 q2 q3 => by
    rw [← hBB]
    exact PySem.W.hideAll_get _ q fun z => by
      rcases List.mem_append.mp z with z | z
      · rcases List.mem_cons.mp z with z | z
        · exact q1 z
        · exact q2 (List.mem_singleton.mp z)
      · exact q3 z
  have core : ∀ h2 : Heap, BB.StaysIn h2 → h2.FunFrames BB X.stack → h2.TracedAtW BB ea cl a0 (rawInt X.env.locals) → s'.heap.UpToSlots h2 →
      ∃ m, h2.Ns C m ∧ ∀ h', Heap.SameBut C h2 h' → ∀ cenv : Env, cenv.locals = C → wpAny (model X.prog X.w) X.A (PySem.passOn "comprehension.variables-let-go" (.ref ea) cenv : Sem Value) (fun _ _ => False) X.xe { s' with heap := h' } := by
    intro h2 k1 k2 k3 k4
    obtain ⟨m, hm, _⟩ := J.loc
    refine ⟨m, k4.ns hm, fun h' sb cenv _ => ?_⟩
    obtain ⟨oe2, vs2, T2, oT2, ts2, he2, ⟨hc2, h02⟩, hd2, h12, hnT2, hTe2, hT2, hdT2, h32⟩ := k3
    have nC : ∀ b o ws, h2.get? b = some o → o.data = .fields ws → b ≠ C := fun b o ws q qd z => by
      obtain ⟨oC, es, ep, hoC, hdC, _⟩ := k4.ns hm
      have hoC' : h2.get? C = some oC := hoC
      rw [← z, q] at hoC'
      cases hoC'
      rw [qd] at hdC
      cases hdC
    have he3 := (sb.2 ea (nC ea _ _ he2 hd2)).trans he2
    have hT3 := (sb.2 T2 (nC T2 _ _ hT2 hdT2)).trans hT2
    have hsz3 : 3 < ts2.size := (Array.getElem?_eq_some_iff.mp h32).1
    unfold PySem.passOn
    refine wpAny_bind (wpAny_field he3 hd2 h12 ?_)
    rw [if_neg (by simp)]
    first
      | refine wpAny_bind ?_
      | refine wpAny_bind (wpAny_pure (wpAny_bind ?_))
    unfold setFlight
    refine wpAny_bind (wpAny_field he3 hd2 h12 ?_)
    rw [if_pos (show (Value.ref T2 != Value.none) = true from by simp)]
    refine wpAny_setField hT3 hdT2 hsz3 (wpAny_throw ?_)
    have other : ∀ b, b ≠ T2 → (h'.update T2 (Obj.mapFields (·.setIfInBounds 3 (cenv.frame.elim Value.none fun f => rawInt f)))).get? b = h'.get? b := fun b hb => Heap.get?_update_other _ _ (Ne.symm hb)
    have go : ∀ b o, BB.get? b = some o → b ≠ C → (h'.update T2 (Obj.mapFields (·.setIfInBounds 3 (cenv.frame.elim Value.none fun f => rawInt f)))).get? b = some o := fun b o q hbC => by
      have : b ≠ T2 := fun z => by rw [z, hnT2] at q; cases q
      rw [other b this, sb.2 b hbC]
      exact k1 b o q
    have frT2 : T2 ∉ frs X.stack := fun z => by
      obtain ⟨_, o, q, nf⟩ := k2.mem z
      rw [hT2] at q
      cases q
      exact nf _ hdT2
    have frame_up : ∀ b o, s'.heap.get? b = some o → (∀ ws, o.data ≠ .fields ws) → b ≠ C → ∃ sl, (h'.update T2 (Obj.mapFields (·.setIfInBounds 3 (cenv.frame.elim Value.none fun f => rawInt f)))).get? b = some { o with slots := sl } := fun b o q nf hbC => by
      obtain ⟨sl, q2⟩ := k4 b o q nf
      have : b ≠ T2 := fun z => by
        subst z
        rw [hT2] at q2
        cases q2
        exact nf _ hdT2
      exact ⟨sl, by rw [other b this, sb.2 b hbC]; exact q2⟩
    have ltC : ∀ b o, s2.heap.get? b = some o → b ≠ C := fun b o q => Nat.ne_of_lt (Nat.lt_of_lt_of_le (Heap.lt_size q) hC)
    have nea : ∀ b o, s2.heap.get? b = some o → b ∉ fp → b ≠ ea ∧ b ≠ T := fun b o q hbf => by
      constructor
      · intro z
        rw [z] at q hbf
        rcases n1' with y | y
        · exact hbf y
        · rw [y] at q; cases q
      · intro z
        rw [z] at q hbf
        rcases n2' with y | y
        · exact hbf y
        · rw [y] at q; cases q
    have un := J.base
    have nfr : ∀ b, b ∈ frs X.stack → ∃ o, s'.heap.get? b = some o ∧ ∀ ws, o.data ≠ .fields ws := fun b hb => (J.stack.mem hb).2
    have trk : ∀ b u, H' b = some u → b ≠ ea ∧ b ≠ T ∧ b ∉ frs X.stack ∧ b ≠ C := fun b u q => by
      refine ⟨fun z => ?_, fun z => ?_, fun z => ?_, fun z => ?_⟩
      · rw [z, n3] at q; cases q
      · rw [z, n4] at q; cases q
      · rw [J.stkFree b z] at q; cases q
      · have : H' C = none := J.free
        rw [z, this] at q; cases q
    have u2 : Un (frs X.stack) fp H2 H' s2.heap (h'.update T2 (Obj.mapFields (·.setIfInBounds 3 (cenv.frame.elim Value.none fun f => rawInt f)))) := by
      refine ⟨fun b o q nb q1 q2 => ?_, fun b o q nb q1 q2 => ?_, fun b o q nb q2 => un.free b o q nb q2, fun b o q q2 => ?_, un.tups, un.frzs, un.tbls⟩
      · exact go b o (inB b o (un.keep b o q nb q1 q2) (nea b o q q2).1 (nea b o q q2).2 q1) (ltC b o q)
      · obtain ⟨sl, q3⟩ := un.slot b o q nb q1 q2
        obtain ⟨o', q4, nf⟩ := nfr b q1
        rw [q3] at q4
        cases q4
        obtain ⟨sl2, q5⟩ := frame_up b _ q3 nf (ltC b o q)
        exact ⟨sl2, q5⟩
      · obtain ⟨o', q3⟩ := un.there b o q q2
        by_cases hb : b ∈ frs X.stack
        · obtain ⟨o4, q4, nf⟩ := nfr b hb
          obtain ⟨sl2, q5⟩ := frame_up b _ q4 nf (ltC b o q)
          exact ⟨_, q5⟩
        · exact ⟨o', go b o' (inB b o' q3 (nea b o q q2).1 (nea b o q q2).2 hb) (ltC b o q)⟩
    have ok2 : HOk X.prog X.w H' (h'.update T2 (Obj.mapFields (·.setIfInBounds 3 (cenv.frame.elim Value.none fun f => rawInt f)))) := fun b u q => by
      refine (J.hok b u q).stay (fun c v hc qc => ?_) (fun _ q => q) fun _ _ q => q
      have tr : c ≠ ea ∧ c ≠ T ∧ c ∉ frs X.stack ∧ c ≠ C := by
        rcases hc with rfl | hc
        · exact trk c u q
        · exact trk c _ hc
      exact go c v (inB c v qc tr.1 tr.2.1 tr.2.2.1) tr.2.2.2
    have I9 := I2.call' (s' := { s' with heap := h'.update T2 (Obj.mapFields (·.setIfInBounds 3 (cenv.frame.elim Value.none fun f => rawInt f))) }) (ch := fp) J.os u2 ok2 J.bare fun b hb => ⟨(hf b hb).2.2.2.1, (hf b hb).2.1, (hf b hb).2.2.2.2.1, (hf b hb).2.2.2.2.2⟩
    have notin : ∀ o, s'.heap.get? T2 = some o → T2 = T := fun o q => Classical.byContradiction fun z => by
      have := inB T2 o q hTe2 z frT2
      rw [hnT2] at this
      cases this
    refine hR _ _ ⟨σ, H', ea, T2, a0, _, rfl, I9.pins_of (fun p hp => absurd hp (by simp)), k0.trans sm, ⟨oe2, vs2, _, _, (other ea (Ne.symm hTe2)).trans he3, hc2, h02, hd2, h12, hTe2, Heap.get?_update_self _ hT3 (Obj.isFreed_of_fields (Obj.data_mapFields hdT2 _)), Obj.data_mapFields hdT2 _, by simp [hsz3]; rfl⟩, n1, ?_, n3, ?_⟩
    · cases q : s2.heap.get? T2 with
      | none => exact hn _ _ _ _ I2 _ q
      | some o =>
        by_cases hf2 : T2 ∈ fp
        · rcases (hf T2 hf2).2.2.2.1 with z | z
          · rw [hex] at z; cases z
          · exact hNw _ z
        · obtain ⟨o', q3⟩ := un.there T2 o q hf2
          rw [notin o' q3]
          exact n2
    · cases q : H' T2 with
      | none => rfl
      | some u =>
        obtain ⟨o', q3⟩ := obj_there (J.hok T2 u q)
        rw [notin o' q3, n4] at q
        cases q
  have hfe : (compEnvC sc (clOf X.env.cells sc.names) C X.env).frame = some X.env.locals := hst.2
  cases hfl : (fl == rawInt X.env.locals) with
  | true =>
    have e2 : fl = rawInt X.env.locals := eq_of_beq hfl
    subst e2
    exact wpAny_noteFrame_againW hfe ta (core _ st ff ta (Heap.UpToSlots.refl _))
  | false =>
    rw [hst.1] at hfr ff core
    refine noteFrame_nextF hfr (hst.2.trans hfe.symm) ff hfe ta hfl st en fun h2 hN2 => ?_
    obtain ⟨k1, k2, k3, k4⟩ := hN2
    exact core h2 k1 k2 k3 k4
theorem dx_comp {elt tg iter : Expr} {ifs : List Expr} {pos : Pos} {mi : MI} {g : MG} {mc : MT} {me : MEX} {B : Ev → Ev} (hB : Blk X k fv B) (hc : X.calm = true) (S : CompScope scX sc NX N k fv) (hX : X.env.scope = scX) (hN : X.N = NX) (hi : DI X tg iter mi) (hbl : Below k g) (hil : ifs.length ≤ 1)
    (hst : X.stack = X.env :: X.outer ∧ X.env.frame = some X.env.locals) (hex : X.ex = []) (hNw : ∀ b, X.s₀.heap.objs.size ≤ b → Nw b) (hn : NewOk X Nw)
    (hb : ∀ C s H fp NwB E', NewOk ((cxB X sc N C s H fp).wish E') NwB → DG ((cxB X sc N C s H fp).wish E') tg g ∧ DIfs ((cxB X sc N C s H fp).wish E') ifs mc ∧ DX ((cxB X sc N C s H fp).wish E') cl NwB elt me)
    (hs : ∀ x, foldedSetIterable iter X.env x = pure x := by intro _; rfl) :
    DX X cl Nw (.ListComp elt [⟨tg, iter, ifs, 0⟩] sc pos) (eCompX B mi g mc me) := by
  obtain ⟨wi, pi, qi⟩ := hi
  refine ⟨fun σ H Q => ∃ os δ r, Sl X os H δ σ ∧ eCompX B mi g mc me δ = some r ∧ REnd (Raises X cl Nw) (fun d => Fin X.K os H d Q) r, ?_, fun os σ H δ d Q s m k => ⟨os, δ, d, s, m, k⟩⟩
  intro pins s σ H Q I h
  obtain ⟨os, δ, d, sl, m, kq⟩ := h
  obtain ⟨xs, e1, m⟩ := bind_inv m
  have m' : (if xs.length ≤ 16777216 then (compXM (fun x => (g x (B δ)).bind fun δ1 => (mc δ1).bind fun b => if b = true then (me δ1).bind fun r => some (r.map fun d => some d) else some (some none)) xs).bind fun r => some (r.map D.lst) else none) = some d := m
  split at m'
  case isFalse => cases m'
  rename_i hlen
  obtain ⟨r, e2, m'⟩ := bind_inv m'
  cases m'
  have hsl : sizeLine = 16777216 := sizeLine_eq
  have hcells : ∀ y ∈ sc.names, y.2 = .free → ∃ c, X.env.cells.lookup y.1 = some c := fun y hy hf => I.ok.has y.1 (.inl (by show X.env.scope.names.lookup y.1 = _; rw [hX]; exact S.freeX y hy hf))
  rw [eval_ListComp]
  refine wpAny_comprehension_free (use := none) rfl hs (closure_ok hcells) S.kind S.names (thn (pi pins s σ H (fun J H' => Same H H' ∧ Walk X.K J (hide os H') xs) I (qi os σ H δ xs _ sl e1 fun J H' g w => ⟨g, w⟩)) fun v s1 h1 => thn h1 fun itv s2 h2 => ?_)
  obtain ⟨it, fp, tn, J, H2, rfl, I2, T, st2, f2, g2, wk⟩ := h2
  have hfl : ∀ b ∈ fp, b < s2.heap.objs.size := fun b hb => let ⟨o, e, _⟩ := T.obj _ _ st2 b hb; Heap.lt_size e
  refine wpAny_newObj_type (wpAny_newFunctionEnv S.nocell (by intro y hy; simp at hy) (fun h₁ hns₁ hsb₁ => ?_) S.kind)
  dsimp only at hns₁ hsb₁ ⊢
  generalize hP2 : s2.heap.push { cls := .type "list", dict := none, data := .seq ([] : List Value).toArray } = P2 at hns₁ hsb₁ ⊢
  generalize hDd : s2.heap.objs.size = Dd
  generalize hCc : P2.objs.size = Cc at hns₁ hsb₁ ⊢
  have hC1 : Cc = Dd + 1 := by rw [← hCc, ← hP2, Heap.size_push, hDd]
  have hDC : Dd ≠ Cc := fun e => by rw [hC1] at e; exact absurd e (Nat.ne_of_lt (Nat.lt_succ_self _))
  have ltC : ∀ b : Addr, b < s2.heap.objs.size → b ≠ Cc := fun b hb e => by rw [e, hC1, ← hDd] at hb; exact absurd (Nat.lt_of_succ_lt hb) (Nat.lt_irrefl _)
  have ltD : ∀ b : Addr, b < s2.heap.objs.size → b ≠ Dd := fun b hb e => by rw [e, ← hDd] at hb; exact absurd hb (Nat.lt_irrefl _)
  have leC : s2.heap.objs.size ≤ Cc := by rw [hC1, hDd]; exact Nat.le_succ _
  have old : ∀ b o, s2.heap.get? b = some o → h₁.get? b = some o := fun b o e =>
    hsb₁.extBut b o (ltC b (Heap.lt_size e)) (Heap.get?_push_of_some _ (hP2 ▸ Heap.get?_push_of_some _ e))
  have hacc : h₁.get? Dd = some { cls := .type "list", data := .seq ([] : List Value).toArray 0 } :=
    hsb₁.extBut _ _ hDC (Heap.get?_push_of_some _ (by rw [← hP2, ← hDd]; exact Heap.get?_push_size _ rfl))
  have fpD : ∀ b ∈ fp, b ≠ Dd := fun b hb => ltD b (hfl b hb)
  have nB : NewOk ((cxB X sc N Cc s2 H2 fp).wish (fun e s' => Raises X cl Nw ∧ ErrIn (cxB X sc N Cc s2 H2 fp) cl (fun b => Nw b ∧ (b ∈ fp ∨ s2.heap.get? b = none)) e s')) (fun b => Nw b ∧ (b ∈ fp ∨ s2.heap.get? b = none)) := by
    intro pins' σ' H' s' I' b hb'
    have J' := I'.unwish
    have z : b ∈ fp ∨ s2.heap.get? b = none := by
      by_cases hf : b ∈ fp
      · exact .inl hf
      · refine .inr ?_
        cases q : s2.heap.get? b with
        | none => rfl
        | some o =>
          obtain ⟨o', q'⟩ := J'.base.there b o q hf
          rw [hb'] at q'
          cases q'
    refine ⟨?_, z⟩
    rcases z with z | z
    · rcases (f2 b z).2.2.2.1 with y | y
      · rw [hex] at y; cases y
      · exact hNw _ y
    · exact hn _ _ _ _ I2 _ z
  obtain ⟨⟨tG, pG, qG⟩, hI, ⟨tE, pE, qE⟩⟩ := hb Cc s2 H2 fp _ _ nB
  have RW : Raises X cl Nw → Raises ((cxB X sc N Cc s2 H2 fp).wish (fun e s' => Raises X cl Nw ∧ ErrIn (cxB X sc N Cc s2 H2 fp) cl (fun b => Nw b ∧ (b ∈ fp ∨ s2.heap.get? b = none)) e s')) cl (fun b => Nw b ∧ (b ∈ fp ∨ s2.heap.get? b = none)) := fun hR e s' h => ⟨hR, ErrIn.unwish h⟩
  -- the block's turns
  have loop : ∀ s₃ : Shared, s₃ = { s2 with heap := h₁, toks := s2.toks + ([] : List (Str × Value)).length } →
      codeAny (model X.prog X.w) X.A (.compLoop (.ListComp elt [⟨tg, iter, ifs, 0⟩] sc pos) 0 (.ref it) (.ref Dd) (compEnvC sc (clOf X.env.cells sc.names) Cc X.env))
        (compPost (model X.prog X.w) X.A X.xe none (EP X pins σ Q) (.ref Dd) Cc) s₃ := by
    rintro s₃ rfl
    have I0 : Inv (cxB X sc N Cc s2 H2 fp) [] (pick k fv σ) H2 { s2 with heap := h₁, toks := s2.toks + ([] : List (Str × Value)).length } :=
      inv_block I2 S hX hN f2 hfl leC hns₁ old
    have nfs : Dd ∉ (cxB X sc N Cc s2 H2 fp).fs := fun z => by
      rcases List.mem_cons.mp (I2.stkSub Dd z) with e | e
      · exact ltD _ I2.lt e.symm
      · exact I2.nofs (Nat.le_of_eq hDd) e
    have cne : ∀ x c, (cxB X sc N Cc s2 H2 fp).env.cells.lookup x = some c → c ≠ Dd := fun x c e z => by
      obtain ⟨v, o, ho, _⟩ := I2.cell x c (clOf_mem (PySem.mem_of_lookup e))
      exact ltD _ (Heap.lt_size ho) z
    have I0' : Inv (cxB X sc N Cc s2 H2 fp) [(Dd, { cls := .type "list", data := .seq ([] : List Value).toArray 0 })] (pick k fv σ) H2 { s2 with heap := h₁, toks := s2.toks + ([] : List (Str × Value)).length } := by
      refine I0.pins_of fun p hp => ?_
      have hp' : p = (Dd, { cls := .type "list", data := .seq ([] : List Value).toArray 0 }) := by simpa using hp
      subst hp'
      exact ⟨hacc, I2.hok.fresh (Nat.le_of_eq hDd), hDC, nfs, fun v z => nomatch z⟩
    have statF : ∀ {H' : Hp} {o : Obj}, (∀ b ∈ fp, H' b = none) → ∀ b ∈ fp, FpOk (cxB X sc N Cc s2 H2 fp) [(Dd, o)] H' b := fun {H' o} hn b hb => by
      refine ⟨hn b hb, ?_, ?_, .inl hb, fun x c e => (f2 b hb).2.2.2.2.1 x c (clOf_mem (PySem.mem_of_lookup e)), fun p hp => ?_⟩
      · exact ltC b (hfl b hb)
      · intro z
        rcases List.mem_cons.mp (I2.stkSub b z) with e | e
        · exact (f2 b hb).2.1 e
        · exact (f2 b hb).2.2.1 e
      · have hp' : p = (Dd, o) := by simpa using hp
        subst hp'
        exact (fpD b hb).symm
    have st1 : tn 0 h₁ := T.keep _ _ _ st2 fun b hb o e => old b o e
    refine loop_by hil (fun n s' => ∃ (i : Nat) (σ' : L2.St) (H' : Hp) (its : List Value) (cnt : Nat) (vs : List V) (ys : List D) (rest : Option (List D)),
      Inv (cxB X sc N Cc s2 H2 fp) [(Dd, { cls := .type "list", data := .seq its.toArray cnt })] σ' H' s' ∧ Vals vs its ∧ tn i s'.heap ∧ (∀ b ∈ fp, H' b = none) ∧ Same H2 H' ∧ Sl (cxB X sc N Cc s2 H2 fp) os H' (B δ) σ' ∧ Dens X.K (hide os H') ys vs ∧
      compXM (fun x => (g x (B δ)).bind fun δ1 => (mc δ1).bind fun b => if b = true then (me δ1).bind fun r => some (r.map fun d => some d) else some (some none)) (xs.drop i) = some rest ∧ rest.map (fun q => ys ++ q) = r ∧ i ≤ xs.length ∧ ys.length ≤ i ∧ n = xs.length - i) ?_ xs.length
      ⟨0, _, H2, [], 0, [], [], r, I0', .nil, st1, fun b hb => (f2 b hb).1, Same.refl _, blk_sl hB S hN (sl.mono g2), .nil, by simpa using e2, by cases r <;> rfl, Nat.zero_le _, Nat.le_refl _, by simp⟩
    have k02 : Same X.H₀ H2 := sl.keep.trans g2
    have err : ∀ e s', Raises X cl Nw ∧ ErrIn (cxB X sc N Cc s2 H2 fp) cl (fun b => Nw b ∧ (b ∈ fp ∨ s2.heap.get? b = none)) e s' → notedBy (model X.prog X.w) X.A (compEnvC sc (clOf X.env.cells sc.names) Cc X.env) (fun x s' => compPost (model X.prog X.w) X.A X.xe none (EP X pins σ Q) (.ref Dd) Cc (.error x) s') e s' :=
      fun e s' h => block_err hst hex hNw hn I2 f2 leC k02 h.1 h.2
    rintro n s3 ⟨i, σ3, H3, its, cnt, vs, ys, rest, I3, rv, st3, fr3, g3, sl3, dv, cm, hr, hi, hyl, rfl⟩
    by_cases hlt : i < xs.length
    · have hx : xs[i]? = some xs[i] := List.getElem?_eq_getElem hlt
      obtain ⟨go, yl⟩ := (wk i os H3 sl3.live g3.hd).1 _ hx
      rw [List.drop_eq_getElem_cons hlt, compXM] at cm
      obtain ⟨o, e3, cm⟩ := bind_inv cm
      obtain ⟨δ1, e5, e3⟩ := bind_inv e3
      obtain ⟨b, e6, e3⟩ := bind_inv e3
      refine thn (T.item (cxB X sc N Cc s2 H2 fp) rfl rfl rfl hc i _ s3 σ3 H3 _ I3 (statF fr3) st3 go) fun rr s4 ⟨u, hrr, h4⟩ => ?_
      subst hrr
      refine thn h4 fun _ s5 ⟨x, H5, I5, r5, y5, st5, fr5⟩ => ?_
      obtain ⟨g5, dx⟩ := yl x H5 y5
      have I5' := I5.pinned (statF fr5) (T.obj _ _ st5)
      refine thn2 (pG _ s5 σ3 H5 x u (fun σ6 H6 => Same H5 H6 ∧ Sl ((cxB X sc N Cc s2 H2 fp).wish (fun e s' => Raises X cl Nw ∧ ErrIn (cxB X sc N Cc s2 H2 fp) cl (fun b => Nw b ∧ (b ∈ fp ∨ s2.heap.get? b = none)) e s')) os H6 δ1 σ6) (I5'.wish _) r5 (qG os x σ3 H5 _ (B δ) δ1 _ ((sl3.mono g5).wish _) dx e5 fun σ6 H6 g6 s6 => ⟨g6, s6⟩)) (fun _ s6 ⟨σ6, H6, I6, g6, sl6⟩ => ?_) err
      refine tested_by hI I6 sl6 e6 (fun s7 H7 I7w g7 => ?_) err
      have I7 := I7w.unwish
      obtain ⟨bl1, bl2⟩ := hbl _ _ _ e5
      have g37 : Same H3 H7 := g5.trans (g6.trans g7)
      have sl7 : Sl (cxB X sc N Cc s2 H2 fp) os H7 (B δ) σ6 := (sl6.unwish.mono g7).back hB S.len sl.len bl1 bl2
      cases b with
      | false =>
        rw [if_neg Bool.false_ne_true] at e3
        cases e3
        rw [if_neg Bool.false_ne_true]
        refine ⟨xs.length - (i + 1), by omega, i + 1, σ6, H7, its, cnt, vs, ys, rest, ?_, rv, ?_, ?_, g3.trans g37, sl7, dv.mono (g37).hd _ _, cm, hr, hlt, by omega, rfl⟩
        · exact I7.unpinned
        · exact T.keep _ _ _ st5 fun b hb o e => (I7.pin (b, o) (List.mem_append_right _ (List.mem_append_right _ (mem_pinsAt hb e)))).1
        · intro b hb
          obtain ⟨o, e, _⟩ := T.obj _ _ st5 b hb
          exact (I7.pin (b, o) (List.mem_append_right _ (List.mem_append_right _ (mem_pinsAt hb e)))).2.1
      | true =>
        rw [if_pos rfl] at e3
        obtain ⟨rr', e7, e3⟩ := bind_inv e3
        cases e3
        rw [if_pos rfl]
        cases rr' with
        | none =>
          have cm' : some none = some rest := cm
          cases cm'
          have hr' : none = r := hr
          subst hr'
          have kR : Raises X cl Nw := kq
          exact thn2 (pE _ s7 σ6 H7 (fun _ _ => False) I7w (qE os σ6 H7 δ1 none _ (sl6.mono g7) e7 (RW kR))) (fun u8 s8 ⟨_, _, _, _, z⟩ => z.elim) err
        | some dd =>
        obtain ⟨rest', e4, cm⟩ := bind_inv (show (compXM _ (xs.drop (i + 1))).bind (fun r => some (r.map fun q => dd :: q)) = some rest from cm)
        cases cm
        refine thn2 (pE _ s7 σ6 H7 (fun v H8 => Same H7 H8 ∧ Den X.K (hide os H8) dd v) I7w (qE os σ6 H7 δ1 (some dd) _ (sl6.mono g7) e7 fun v H8 g8 r8 => ⟨g8, r8⟩)) (fun u8 s8 ⟨v8, H8, I8w, r8, g8, den8⟩ => ?_) err
        have I8 := I8w.unwish
        obtain ⟨eD, nD, neD, nfD, _⟩ := I8.pin (Dd, { cls := .type "list", data := .seq its.toArray cnt }) (List.mem_append_right _ (List.mem_append_left _ (List.mem_singleton.mpr rfl)))
        have hlv : its.length = ys.length := by rw [← rv.length, ← dv.length]
        refine call_meets F.slot_list_append ⟨_, eD, rfl⟩ F.entry_list_append (F.args_list_append_2 _ _) (PySem.list_append Dd its.toArray cnt u8 (by rw [List.size_toArray]; omega)) ⟨eD, ?_⟩
        have hpush : its.toArray.push u8 = (its ++ [u8]).toArray := by simp
        obtain ⟨cnt', q⟩ : ∃ c, (s8.heap.update Dd (Obj.mapSeq (·.push u8))).get? Dd = some { cls := .type "list", data := .seq (its ++ [u8]).toArray c } :=
          ⟨_, by have q := PySem.IsL.update eD (·.push u8); rw [hpush] at q; exact q⟩
        have I9 := (I8.pins_of (pins' := []) fun p hp => absurd hp (by simp)).turned (it := Dd) (h' := s8.heap.update Dd (Obj.mapSeq (·.push u8))) (t' := s8.toks)
          (fun b o hb e => (Heap.get?_update_other s8.heap _ (Ne.symm hb)).trans e) nD neD (.inr (Nat.le_of_eq hDd)) cne (fun p hp => absurd hp (by simp))
        refine ⟨xs.length - (i + 1), by omega, i + 1, σ6, H8, its ++ [u8], cnt', vs ++ [v8], ys ++ [dd], rest', I9.pins_of fun p hp => ?_, rv.append (.cons r8 .nil), ?_, ?_, g3.trans (g37.trans g8), sl7.mono g8, (dv.mono ((g37.trans g8)).hd _ _).append (.cons den8 .nil), e4, ?_, hlt, ?_, rfl⟩
        · have hp' := List.mem_singleton.mp hp
          subst hp'
          exact ⟨q, nD, neD, nfD, fun v z => nomatch z⟩
        · refine T.keep _ _ _ st5 fun b hb o e => ?_
          have := (I8.pin (b, o) (List.mem_append_right _ (List.mem_append_right _ (mem_pinsAt hb e)))).1
          exact (Heap.get?_update_other s8.heap _ (Ne.symm (fpD b hb))).trans this
        · intro b hb
          obtain ⟨o, e, _⟩ := T.obj _ _ st5 b hb
          exact (I8.pin (b, o) (List.mem_append_right _ (List.mem_append_right _ (mem_pinsAt hb e)))).2.1
        · rw [← hr]
          cases rest' <;> simp
        · rw [List.length_append, List.length_singleton]
          omega
    · have e : i = xs.length := by omega
      subst e
      rw [List.drop_length] at cm
      cases cm
      have hr' : some (ys ++ []) = r := hr
      rw [List.append_nil] at hr'
      subst hr'
      refine thn (T.done (cxB X sc N Cc s2 H2 fp) rfl rfl rfl hc _ _ s3 σ3 H3 _ I3 (statF fr3) st3 ((wk _ os H3 sl3.live g3.hd).2 rfl)) fun rr s4 ⟨hrr, I4⟩ => ?_
      subst hrr
      obtain ⟨mm, hnn, _⟩ := I4.loc
      refine ⟨mm, hnn, fun h' sb => ?_⟩
      have hlv := dv.length
      have nD : H3 Dd = none := (I4.pin (Dd, { cls := .type "list", data := .seq its.toArray cnt }) (List.mem_append_right _ (List.mem_singleton.mpr rfl))).2.1
      refine ⟨.ref Dd, _, block_end I2 f2 (Nat.le_of_eq hDd) hDC leC I4 rv (by omega) sb, rfl, ?_⟩
      have kF : Fin X.K os H (.lst ys) Q := kq
      exact kF _ _ (g2.trans (g3.trans (same_new nD _))) (.newL sl3.live nD dv)
  exact codeAny_compStart_list (loop _ rfl) (T.self X.A 0 _ _ _ (T.keep _ _ _ st2 fun b hb o e => old b o e) (loop _ rfl))

end
end DL

set_option Elab.async false
set_option linter.all false
set_option maxRecDepth 100000
namespace DL
open PySem PySem.Spec PyProof.Rows L2
/-! ### methods of texts: partition, split, join -/
section
variable {X : Cx}
/-- a tuple made by a built-in: tracked -/
theorem tup_made {pins : List (Addr × Obj)} {σ : L2.St} {H : Hp} {s : Shared} {ys : List V} {its : List Value} {tk : Nat} (I : Inv X pins σ H s) (hv : Vals ys its) (hz : ys.length ≤ sizeLine) :
    Inv X pins σ (upd H s.heap.objs.size (.tup ys)) { s with heap := s.heap.push { cls := .type "tuple", data := .seq its.toArray }, toks := tk } :=
  I.laid (fun _ _ q => Heap.get?_push_of_some _ q) (Nat.le_refl _) ⟨hz, its, hv, IsTup.new _ _⟩
theorem rel_str (x : Str) (t : Tok) : RelV (.str x) (.str x t) := ⟨t, rfl⟩
def rPart : V → List V → Hp → VK → Prop := fun x vs H Q => ∃ a b, x = .str a ∧ vs = [.str b] ∧ (b.length == 0) = false ∧ a.length ≤ sizeLine ∧
  ∀ p, H p = none → Q (.ref p) (upd H p (.tup [.str (Txt.partition a b).1, .str (Txt.partition a b).2.1, .str (Txt.partition a b).2.2]))
theorem mt_partition : MtR X "str.partition" rPart := by
  rintro pins s σ H x vs v us Q I rx rv ⟨a, b, rfl, rfl, hb, ha, k⟩
  obtain ⟨t, rfl⟩ := rx
  obtain ⟨u, rfl, ru⟩ := rv.one
  obtain ⟨t', rfl⟩ := ru
  refine call_meets F.slot_str_partition (typeIs_str s a t) F.entry_str_partition (F.args_str_partition_2 _ _) (meets_str_partition a b t t' hb ha) ?_
  have fin := k _ I.fresh
  unfold Txt.partition at fin
  have three : 3 ≤ sizeLine := by rw [lim_eq]; decide
  cases e : Builtin.Str.occurrences a b 0 a.length 1 with
  | nil => simp only [e] at fin ⊢; exact ⟨.ref _, _, tup_made I (.cons (rel_str _ _) (.cons (rel_str _ _) (.cons (rel_str _ _) .nil))) three, rfl, fin⟩
  | cons i r => simp only [e] at fin ⊢; exact ⟨.ref _, _, tup_made I (.cons (rel_str _ _) (.cons (rel_str _ _) (.cons (rel_str _ _) .nil))) three, rfl, fin⟩
theorem vals_from : ∀ (xs : List Str) (n : Nat), Vals (xs.map V.str) (strsFrom n xs)
  | [], _ => .nil
  | x :: xs, n => .cons (rel_str x n) (vals_from xs (n + 1))
def rSplit : V → List V → Hp → VK → Prop := fun x vs H Q => ∃ a b, x = .str a ∧ vs = [.str b] ∧ (b.length == 0) = false ∧ a.length + 2 ≤ sizeLine ∧
  ∀ p, H p = none → Q (.ref p) (upd H p (.lst ((Txt.split a b).map V.str)))
theorem mt_split : MtR X "str.split" rSplit := by
  rintro pins s σ H x vs v us Q I rx rv ⟨a, b, rfl, rfl, hb, ha, k⟩
  obtain ⟨t, rfl⟩ := rx
  obtain ⟨u, rfl, ru⟩ := rv.one
  obtain ⟨t', rfl⟩ := ru
  have fin := k _ I.fresh
  have few := Nat.le_trans (split_le a b) ha
  have one : 1 ≤ sizeLine := by rw [lim_eq]; decide
  unfold Txt.split at fin few
  cases h1 : (decide (a.length < b.length) || decide (Builtin.Str.strKind a < Builtin.Str.strKind b)) with
  | true =>
    rw [if_pos h1] at fin
    exact call_meets F.slot_str_split (typeIs_str s a t) F.entry_str_split (F.args_str_split_2 _ _) (meets_str_split_cannot_occur a b t t' h1) ⟨.ref _, _, I.lnew (t' := s.toks) (its := [.str a t]) (.cons (rel_str a t) .nil) one, rfl, fin⟩
  | false =>
    rw [if_neg (by rw [h1]; exact Bool.false_ne_true)] at fin few
    cases h2 : (Builtin.Str.occurrences a b 0 a.length (a.length + 1)).isEmpty with
    | true =>
      rw [if_pos h2] at fin
      exact call_meets F.slot_str_split (typeIs_str s a t) F.entry_str_split (F.args_str_split_2 _ _) (meets_str_split_not_found a b t t' h1 hb h2) ⟨.ref _, _, I.lnew (t' := s.toks) (its := [.str a t]) (.cons (rel_str a t) .nil) one, rfl, fin⟩
    | false =>
      rw [if_neg (by rw [h2]; exact Bool.false_ne_true)] at fin few
      exact call_meets F.slot_str_split (typeIs_str s a t) F.entry_str_split (F.args_str_split_2 _ _) (meets_str_split_sep a b t t' h1 hb h2 (by omega) few)
        ⟨.ref _, _, I.lnew (vals_from _ _) (by rw [List.length_map]; exact few), rfl, fin⟩
theorem texts_vals {K : PySem.W.Frag} {H : Hp} : ∀ {ds : List D} {xs : List Str} {vs : List V} {us : List Value}, textsOf ds = some xs → Dens K H ds vs → Vals vs us → ∃ l : List (Str × Tok), us = strValues l ∧ l.map (·.1) = xs
  | [], _, _, _, e, d, r => by cases e; rw [d.unnil] at r; cases r; exact ⟨[], rfl, rfl⟩
  | .str x :: ds, _, _, _, e, d, r => by
    obtain ⟨q, e1, e⟩ := bind_inv e
    cases e
    obtain ⟨v, vs', rfl, d1, d2⟩ := d.uncons
    cases r with
    | cons r1 r2 =>
      rw [d1.str_inv] at r1
      obtain ⟨t, rfl⟩ := r1
      obtain ⟨l, rfl, rfl⟩ := texts_vals e1 d2 r2
      exact ⟨(x, t) :: l, rfl, rfl⟩
  | .non :: _, _, _, _, e, _, _ => by cases e
  | .bl _ :: _, _, _, _, e, _, _ => by cases e
  | .int _ :: _, _, _, _, e, _, _ => by cases e
  | .tup _ :: _, _, _, _, e, _, _ => by cases e
  | .lst _ :: _, _, _, _, e, _, _ => by cases e
  | .dic _ _ :: _, _, _, _, e, _, _ => by cases e
def rJoin (K : PySem.W.Frag) : V → List V → Hp → VK → Prop := fun x vs H Q => ∃ sep p ys ds xs, x = .str sep ∧ vs = [.ref p] ∧ SqL K H p ys ∧ Dens K H ds ys ∧ textsOf ds = some xs ∧ (JoinOk sep xs = true ∧ (Txt.join sep xs).length ≤ sizeLine) ∧ Q (.str (Txt.join sep xs)) H
theorem mt_join : MtR X "str.join" (rJoin X.K) := by
  rintro pins s σ H x vs v us Q I rx rv ⟨sep, p, ys, ds, xs, rfl, rfl, hp, hd, hx, ⟨ok, hz⟩, q⟩
  obtain ⟨t, rfl⟩ := rx
  obtain ⟨u, rfl, ru⟩ := rv.one
  cases ru
  obtain ⟨its, r, pl, _⟩ := I.list hp
  obtain ⟨l, rfl, rfl⟩ := texts_vals hx hd r
  have short : Builtin.Str.tooLong ((l.map (·.1)).toArray.foldl (· + ·.length + sep.length) 0) = false := by simpa [JoinOk] using ok
  refine call_meets F.slot_str_join (typeIs_str s sep t) F.entry_str_join (F.args_str_join_2 _ _) (meets_str_join_list sep t p l short) ⟨pl.isList, ?_⟩
  match l, q, hz with
  | [], q, hz => exact ⟨hz, .str _, H, I.tok _, rel_str _ _, q⟩
  | [a], q, _ => exact ⟨.str a.1, H, I, rel_str _ _, q⟩
  | a :: b :: r, q, hz => exact ⟨hz, .str _, H, I.tok _, rel_str _ _, q⟩
/-! as expressions -/
theorem dens_strs {K : PySem.W.Frag} {H : Hp} : ∀ (xs : List Str), Dens K H (xs.map D.str) (xs.map V.str)
  | [] => .nil
  | x :: xs => .cons (.str x) (dens_strs xs)
variable {o e : Expr} {mo me : ME} {p2 p3 : Pos}
/-- text.m(e): the built-in's fact, and what it asks of the mirror -/
theorem de_txt {name : Str} {id : String} {r : V → List V → Hp → VK → Prop} {g : D → D → Option D} (slot : Slot "str" name id) (hty : typeOf (.builtin id) = pure (.type "method_descriptor")) (hm : MtR X id r)
    (hg : ∀ os H, Live os H → ∀ dx dy d x y Q, Den X.K (hide os H) dx x → Den X.K (hide os H) dy y → g dx dy = some d → Fin X.K os H d Q → r x [y] H Q) (hs1 : ∀ dx dy d, g dx dy = some d → ∃ z, dx = .str z) (ho : DE X o mo) (he : DE X e me)
    (h1 : attributeBase o name X.env (eval o X.env) = eval o X.env := by rfl)
    (h2 : ((backTo p3 (starEach [e] X.env)).all (fun x => !x.1) && (backToKw p3 (keywordEach [] X.env)).all (fun x => x.1.isSome) && decide ([e].length + ([] : List Keyword).length + (if ([] : List Keyword).isEmpty then 0 else 1) < 30)) = true := by rfl)
    (h3 : (p2.endLine == p3.line) = true := by rfl) (h4 : starEach [e] X.env = (false, eval e X.env) :: starEach [] X.env := by rfl) (h5 : (backTo p3 (starEach [] X.env)).any (·.1) = false := by rfl) :
    DE X (.Call (.Attribute o name p2) [e] [] p3) (eOp g mo me) := by
  obtain ⟨to, po, qo⟩ := ho
  obtain ⟨te, pe, qe⟩ := he
  refine ⟨_, pe_bm PySem.F.plainAttrs_str slot hty hm po (pa_cons pe pa_nil h4) h1 h2 h3 h4 h5, fun os σ H δ d Q s m k => ?_⟩
  obtain ⟨dx, e1, m⟩ := bind_inv m
  obtain ⟨dy, e2, m⟩ := bind_inv m
  obtain ⟨z, rfl⟩ := hs1 dx dy d m
  refine qo os σ H δ _ _ s e1 fun x H1 g1 r1 => ⟨by rw [r1.str_inv]; rfl, ?_⟩
  exact qe os σ H1 δ dy _ (s.mono g1) e2 fun y H2 g2 r2 => hg os H2 (s.live.mono (g1.trans g2)) _ dy d x y Q (r1.mono g2.hd _ _) r2 m (k.mono (g1.trans g2))
theorem two_strs {f : Str → Str → Option D} {g : D → D → Option D} (hg : ∀ x y, g x y = match x, y with | .str a, .str b => f a b | _, _ => none) {dx dy d : D} (h : g dx dy = some d) : ∃ a b, dx = .str a ∧ dy = .str b ∧ f a b = some d := by
  rw [hg] at h
  split at h
  · exact ⟨_, _, rfl, rfl, h⟩
  · cases h
theorem de_partition (ho : DE X o mo) (he : DE X e me) (h1 : attributeBase o "partition" X.env (eval o X.env) = eval o X.env := by rfl)
    (h2 : ((backTo p3 (starEach [e] X.env)).all (fun x => !x.1) && (backToKw p3 (keywordEach [] X.env)).all (fun x => x.1.isSome) && decide ([e].length + ([] : List Keyword).length + (if ([] : List Keyword).isEmpty then 0 else 1) < 30)) = true := by rfl)
    (h3 : (p2.endLine == p3.line) = true := by rfl) (h4 : starEach [e] X.env = (false, eval e X.env) :: starEach [] X.env := by rfl) (h5 : (backTo p3 (starEach [] X.env)).any (·.1) = false := by rfl) :
    DE X (.Call (.Attribute o "partition" p2) [e] [] p3) (eOp oPart mo me) := by
  refine de_txt F.slot_str_partition F.type_str_partition mt_partition (fun os H L dx dy d x y Q rx ry m k => ?_) (fun dx dy d m => ?_) ho he h1 h2 h3 h4 h5
  · obtain ⟨a, b, rfl, rfl, m⟩ := two_strs (g := oPart) (f := fun a b => oPart (.str a) (.str b)) (fun x y => by cases x <;> cases y <;> rfl) m
    simp only [oPart] at m
    split at m
    · rename_i hz
      cases m
      refine ⟨a, b, rx.str_inv, by rw [ry.str_inv], hz.1, by rw [lim_eq]; exact hz.2, fun p hp => k _ _ (same_new hp _) (.newT L hp (.cons (.str _) (.cons (.str _) (.cons (.str _) .nil))))⟩
    · cases m
  · obtain ⟨a, _, rfl, _⟩ := two_strs (g := oPart) (f := fun a b => oPart (.str a) (.str b)) (fun x y => by cases x <;> cases y <;> rfl) m
    exact ⟨a, rfl⟩
theorem de_split (ho : DE X o mo) (he : DE X e me) (h1 : attributeBase o "split" X.env (eval o X.env) = eval o X.env := by rfl)
    (h2 : ((backTo p3 (starEach [e] X.env)).all (fun x => !x.1) && (backToKw p3 (keywordEach [] X.env)).all (fun x => x.1.isSome) && decide ([e].length + ([] : List Keyword).length + (if ([] : List Keyword).isEmpty then 0 else 1) < 30)) = true := by rfl)
    (h3 : (p2.endLine == p3.line) = true := by rfl) (h4 : starEach [e] X.env = (false, eval e X.env) :: starEach [] X.env := by rfl) (h5 : (backTo p3 (starEach [] X.env)).any (·.1) = false := by rfl) :
    DE X (.Call (.Attribute o "split" p2) [e] [] p3) (eOp oSplit mo me) := by
  refine de_txt F.slot_str_split F.type_str_split mt_split (fun os H L dx dy d x y Q rx ry m k => ?_) (fun dx dy d m => ?_) ho he h1 h2 h3 h4 h5
  · obtain ⟨a, b, rfl, rfl, m⟩ := two_strs (g := oSplit) (f := fun a b => oSplit (.str a) (.str b)) (fun x y => by cases x <;> cases y <;> rfl) m
    simp only [oSplit] at m
    split at m
    · rename_i hz
      cases m
      refine ⟨a, b, rx.str_inv, by rw [ry.str_inv], hz.1, by rw [lim_eq]; exact hz.2, fun p hp => k _ _ (same_new hp _) (.newL L hp (dens_strs _))⟩
    · cases m
  · obtain ⟨a, _, rfl, _⟩ := two_strs (g := oSplit) (f := fun a b => oSplit (.str a) (.str b)) (fun x y => by cases x <;> cases y <;> rfl) m
    exact ⟨a, rfl⟩
theorem join_inv {dx dy d : D} (h : oJoin dx dy = some d) : ∃ sep ds xs, dx = .str sep ∧ dy = .lst ds ∧ textsOf ds = some xs ∧ (JoinOk sep xs = true ∧ (Txt.join sep xs).length ≤ 16777216) ∧ d = .str (Txt.join sep xs) := by
  cases dx with
  | str sep =>
    cases dy with
    | lst ds =>
      obtain ⟨xs, e, h⟩ := bind_inv (show (textsOf ds).bind _ = some d from h)
      split at h
      · rename_i hz
        cases h
        exact ⟨sep, ds, xs, rfl, rfl, e, hz, rfl⟩
      · cases h
    | _ => cases h
  | _ => cases h
theorem de_join (ho : DE X o mo) (he : DE X e me) (h1 : attributeBase o "join" X.env (eval o X.env) = eval o X.env := by rfl)
    (h2 : ((backTo p3 (starEach [e] X.env)).all (fun x => !x.1) && (backToKw p3 (keywordEach [] X.env)).all (fun x => x.1.isSome) && decide ([e].length + ([] : List Keyword).length + (if ([] : List Keyword).isEmpty then 0 else 1) < 30)) = true := by rfl)
    (h3 : (p2.endLine == p3.line) = true := by rfl) (h4 : starEach [e] X.env = (false, eval e X.env) :: starEach [] X.env := by rfl) (h5 : (backTo p3 (starEach [] X.env)).any (·.1) = false := by rfl) :
    DE X (.Call (.Attribute o "join" p2) [e] [] p3) (eOp oJoin mo me) := by
  refine de_txt F.slot_str_join F.type_str_join mt_join (fun os H L dx dy d x y Q rx ry m k => ?_) (fun dx dy d m => ?_) ho he h1 h2 h3 h4 h5
  · obtain ⟨sep, ds, xs, rfl, rfl, e1, hz, rfl⟩ := join_inv m
    obtain ⟨p, ys, rfl, hp, hd⟩ := ry.lst_up
    exact ⟨sep, p, ys, ds, xs, rx.str_inv, rfl, hp, hd.up, e1, ⟨hz.1, by rw [lim_eq]; exact hz.2⟩, k _ H (Same.refl _) (.str _)⟩
  · obtain ⟨sep, _, _, rfl, _⟩ := join_inv m
    exact ⟨sep, rfl⟩
end
end DL

set_option Elab.async false
set_option linter.all false
set_option maxRecDepth 100000
namespace DL
open PySem PySem.Spec PyProof.Rows L2
/-! ### f-strings of whole numbers and written texts -/
theorem glueAll_grows : ∀ (xs : List Str) (acc : Str), acc.length ≤ (glueAll acc xs).length
  | [], acc => Nat.le_refl _
  | x :: xs, acc => by
    have := glueAll_grows xs (acc ++ x)
    rw [strLen_append] at this
    exact Nat.le_trans (Nat.le_add_right _ _) this
section
variable {X : Cx} {e : Expr} {me : ME} {pos : Pos}
theorem de_fmt (he : DE X e me) : DE X (.FormattedValue e (-1) none pos) (eUn uFmt me) := by
  obtain ⟨t, p, q⟩ := he
  refine ⟨fun σ H Q => t σ H fun x H1 => ∃ i, x = .int i ∧ i.natAbs.log2 < 1920 ∧ Q (.str (toString i)) H1, fun pins s σ H Q I h => ?_, fun os σ H δ d Q s m k => ?_⟩
  · refine wpAny_FormattedValue_plain (thn (p pins s σ H _ I h) fun v s1 ⟨x, H1, I1, r1, i, ex, hi, q1⟩ => ?_)
    subst ex
    obtain ⟨tk, rfl⟩ := r1
    exact wpAny_formatField_int hi ⟨_, H1, I1.tok _, rel_str _ _, q1⟩
  · obtain ⟨dx, e1, m⟩ := bind_inv m
    refine q os σ H δ dx _ s e1 fun v H1 g1 r1 => ?_
    cases dx with
    | int i =>
      have m' : (if i.natAbs.log2 < 1920 then some (D.str (toString i)) else none) = some d := m
      split at m'
      · rename_i hi
        cases m'
        exact ⟨i, r1.int_inv, hi, k _ H1 g1 (.str _)⟩
      · cases m'
    | _ => cases m
/-- the parts, one after another -/
def DJ (X : Cx) (vs : List Expr) (m : MA) : Prop := ∀ os pins s σ H δ ds xs acc Q, Sl X os H δ σ → Inv X pins σ H s → m δ = some ds → textsOf ds = some xs → (glueAll acc xs).length ≤ sizeLine →
  (∀ s' H', Inv X pins σ H' s' → Same H H' → Q (glueAll acc xs) s') → Joins (model X.prog X.w) X.A X.xe (evalEach vs X.env) acc Q s
theorem dj_nil : DJ X [] aNil := by
  intro os pins s σ H δ ds xs acc Q sl I m ht hz k
  cases m
  cases ht
  exact k s H I (Same.refl _)
theorem dj_cons {vs : List Expr} {mr : MA} (he : DE X e me) (hr : DJ X vs mr) (hv : evalEach (e :: vs) X.env = eval e X.env :: evalEach vs X.env := by rfl) : DJ X (e :: vs) (aCons me mr) := by
  obtain ⟨t, p, q⟩ := he
  intro os pins s σ H δ ds xs acc Q sl I m ht hz k
  obtain ⟨d, e1, m⟩ := bind_inv m
  obtain ⟨r, e2, m⟩ := bind_inv m
  cases m
  cases d with
  | str y =>
    obtain ⟨ys, e3, ht⟩ := bind_inv (show (textsOf r).bind (fun q => some (y :: q)) = some xs from ht)
    cases ht
    rw [hv]
    refine thn (p pins s σ H (fun v H1 => Same H H1 ∧ v = .str y) I (q os σ H δ _ _ sl e1 fun v H1 g1 r1 => ⟨g1, r1.str_inv⟩)) fun u s1 ⟨v, H1, I1, r1, g1, ev⟩ => ?_
    subst ev
    obtain ⟨tk, rfl⟩ := r1
    have hz' : (glueAll (acc ++ y) ys).length ≤ sizeLine := hz
    exact ⟨y, tk, rfl, Nat.le_trans (glueAll_grows ys _) hz', hr os pins s1 σ H1 δ r ys (acc ++ y) Q (sl.mono g1) I1 e2 e3 hz' fun s2 H2 I2 g2 => k s2 H2 I2 (g1.trans g2)⟩
  | _ => cases ht
theorem de_fstr {v₁ v₂ : Expr} {rest : List Expr} {m : MA} (h : DJ X (v₁ :: v₂ :: rest) m) : DE X (.JoinedStr (v₁ :: v₂ :: rest) pos) (eFstr m) := by
  refine ⟨fun σ H Q => ∃ os δ ds xs, Sl X os H δ σ ∧ m δ = some ds ∧ textsOf ds = some xs ∧ (glueAll Str.empty xs).length ≤ sizeLine ∧ ∀ H', Same H H' → Q (.str (glueAll Str.empty xs)) H', fun pins s σ H Q I hq => ?_, fun os σ H δ d Q s me k => ?_⟩
  · obtain ⟨os, δ, ds, xs, sl, e1, e2, hz, q⟩ := hq
    exact wpAny_JoinedStr (h os pins s σ H δ ds xs _ _ sl I e1 e2 hz fun s' H' I' g => ⟨hz, .str _, H', I'.tok _, rel_str _ _, q H' g⟩)
  · obtain ⟨ds, e1, me⟩ := bind_inv me
    obtain ⟨xs, e2, me⟩ := bind_inv me
    split at me
    · rename_i hz
      cases me
      exact ⟨os, δ, ds, xs, s, e1, e2, by rw [lim_eq]; exact hz, fun H' g => k _ H' g (.str _)⟩
    · cases me
end
end DL

set_option Elab.async false
set_option linter.all false
set_option maxRecDepth 100000
namespace DL
open PySem PySem.Spec PyProof.Rows L2
/-! ### slices of texts; walking a text; int of a text; is None; the module's texts and tuples -/
section
variable {X : Cx} {a e : Expr} {ma me : ME} {pos p2 p3 : Pos}
def DPo (X : Cx) (o : Option Expr) (m : MP) : Prop := ∃ t : TO, PO X o t ∧ ∀ os σ H δ r Q, Sl X os H δ σ → m δ = some r → (∀ H', Same H H' → Q r H') → t σ H Q
theorem dpo_no : DPo X none pNo := ⟨_, po_none, fun os σ H δ r Q s m k => by cases m; exact k H (Same.refl _)⟩
theorem dpo_at (h : DE X e me) : DPo X (some e) (pAt me) := by
  obtain ⟨t, p, q⟩ := h
  refine ⟨_, po_some p, fun os σ H δ r Q s m k => ?_⟩
  obtain ⟨d, e1, m⟩ := bind_inv m
  refine q os σ H δ d _ s e1 fun v H1 g1 r1 => ?_
  cases d with
  | int i => cases m; exact ⟨i, r1.int_inv, k H1 g1⟩
  | _ => cases m
def rSlS : V → Option Int → Option Int → Hp → VK → Prop := fun x lo hi H Q => ∃ t, x = .str t ∧ t.length ≤ sizeLine ∧ Q (.str (Txt.slice t lo hi)) H
theorem sl_str : SlR X rSlS := by
  intro pins s σ H x v vl vu lo hi sl Q I rx hs pl pu h
  obtain ⟨t, rfl, hz, q⟩ := h
  obtain ⟨tk, rfl⟩ := rx
  refine ⟨"str", _, F.slot_str_getitem.lookup, typeIs_str _ _ _, ?_⟩
  have fin : ∀ l u, (Txt.slice t l u).length ≤ sizeLine := fun l u => Nat.le_trans (Txt.slice_le t l u) hz
  have done : ∀ (t' : Tok) (k : Nat), EP X pins σ Q (.str (Txt.slice t lo hi) t') { s with toks := k } := fun t' k => ⟨.str _, H, I.tok k, rel_str _ _, q⟩
  cases pl with
  | none =>
    cases pu with
    | none => exact wpAny_getItem_str_slice (l := none) (u := none) (st := none) hs rfl (post_val_or_str ⟨fin _ _, done⟩)
    | int j uj => exact wpAny_getItem_str_slice (l := none) (u := some (j, uj)) (st := none) hs rfl (post_val_or_str ⟨fin _ _, done⟩)
  | int i ui =>
    cases pu with
    | none => exact wpAny_getItem_str_slice (l := some (i, ui)) (u := none) (st := none) hs rfl (post_val_or_str ⟨fin _ _, done⟩)
    | int j uj => exact wpAny_getItem_str_slice (l := some (i, ui)) (u := some (j, uj)) (st := none) hs rfl (post_val_or_str ⟨fin _ _, done⟩)
theorem de_sl {lo hi : Option Expr} {ml mh : MP} (he : DE X e me) (hl : DPo X lo ml) (hh : DPo X hi mh) : DE X (.Subscript e (.Slice lo hi none p2) pos) (eSl me ml mh) := by
  obtain ⟨t, p, q⟩ := he
  obtain ⟨tl, pl, ql⟩ := hl
  obtain ⟨th, ph, qh⟩ := hh
  refine ⟨_, pe_slice sl_str p pl ph, fun os σ H δ d Q s m k => ?_⟩
  obtain ⟨x, e1, m⟩ := bind_inv m
  obtain ⟨l, e2, m⟩ := bind_inv m
  obtain ⟨h, e3, m⟩ := bind_inv m
  refine q os σ H δ x _ s e1 fun v H1 g1 r1 => ?_
  refine ql os σ H1 δ l _ (s.mono g1) e2 fun H2 g2 => ?_
  refine qh os σ H2 δ h _ (s.mono (g1.trans g2)) e3 fun H3 g3 => ?_
  cases x with
  | str t =>
    have m' : (if t.length ≤ 16777216 then some (D.str (Txt.slice t l h)) else none) = some d := m
    split at m'
    · rename_i hz
      cases m'
      exact ⟨t, r1.str_inv, by rw [lim_eq]; exact hz, k _ H3 (g1.trans (g2.trans g3)) (.str _)⟩
    · cases m'
  | _ => cases m
/-! walking -/
def Its (x : Str) : It := ⟨fun i _ => i < x.cps.size, fun i H v H' => H' = H ∧ ∃ c, x.cps[i]? = some c ∧ v = .str ⟨#[c]⟩, fun i _ => i = x.cps.size⟩
theorem turn_str {P : Program} {w : World} {K : PySem.W.Frag} {tg : Expr} {n : String} {x : Str} {t : Tok} (it : Addr)
    (hn : ["enumerate", "zip", "dict_itemiterator", "dict_reverseitemiterator", "odict_iterator", "itertools.zip_longest", "itertools.pairwise"].contains n = false)
    (W : ∀ A : Around, A.handled = none → Walks P w A it [it] [it] x.cps.size (SignAt x) (fun i h => h.IsStrIter it n x t i))
    (S : ∀ (A : Around) (i : Nat) (s : Shared) (Q : Value → Shared → Prop) (E : Value → Shared → Prop), s.heap.IsStrIter it n x t i → Q (.ref it) s → wpAny (model P w) A (pyIter (.ref it)) Q E s) :
    Turn P w K tg (Its x) [it] it (fun i h => h.IsStrIter it n x t i) where
  mem := by simp
  obj := fun i h st b hb => by
    rw [List.mem_singleton.mp hb]
    obtain ⟨o, q, c, d⟩ := st
    exact ⟨o, q, fun v z => by rw [d] at z; cases z⟩
  keep := fun i h h' st k => by
    obtain ⟨o, q, r⟩ := st
    exact ⟨o, k it (by simp) o q, r⟩
  item := by
    intro X hP hw hK hc i pins s σ H E I hf st hg
    subst hP hw hK
    obtain ⟨f0, f1, f2, f3, f4, f5⟩ := hf it (by simp)
    refine (W X.A (I.ok.hd hc)).item i s _ _ hg st fun v h' tk hv st' kk => ?_
    obtain ⟨c, u, hc', rfl⟩ := hv
    have J : Inv X pins σ H { s with heap := h', toks := tk } := I.turned (fun b o hb q => kk b o (by simpa using hb) q) f0 f1 f3 f4 f5
    obtain ⟨o, q, c1, d1⟩ := id st'
    exact ⟨_, rfl, go_of (s := { s with heap := h', toks := tk }) q c1 d1 hn ⟨.str ⟨#[c]⟩, H, J, ⟨u, rfl⟩, ⟨rfl, c, hc', rfl⟩, st', fun b hb => (hf b hb).1⟩⟩
  done := by
    intro X hP hw hK hc i pins s σ H E I hf st hg
    subst hP hw hK
    obtain ⟨f0, f1, f2, f3, f4, f5⟩ := hf it (by simp)
    have hg' : i = x.cps.size := hg
    subst hg'
    exact (W X.A (I.ok.hd hc)).done s _ _ st fun h' tk kk => ⟨rfl, I.turned (fun b o hb q => kk b o (by simpa using hb) q) f0 f1 f3 f4 f5⟩
  self := fun A i s Q E st h => S A i s Q E st h
def iStrT (tl : TE) : TI := fun σ H R => tl σ H fun x H1 => ∃ t, x = .str t ∧ R (Its t) H1
theorem pi_str {l tg : Expr} {tl : TE} (hl : PE X l tl) : PI X tg l (iStrT tl) := by
  intro pins s σ H R I h
  refine thn (hl pins s σ H _ I h) fun v s1 ⟨x, H1, I1, r1, q1⟩ => ?_
  obtain ⟨t, e, q⟩ := q1
  subst e
  obtain ⟨tk, rfl⟩ := r1
  have fp : ∀ b ∈ [s1.heap.objs.size], FpOk X pins H1 b := fun b hb => by
    rw [List.mem_singleton.mp hb]
    exact I1.fpOk (Nat.le_refl _) (I1.hok.fresh (Nat.le_refl _))
  cases ha : t.cps.all (· < 128) with
  | true => exact wpAny_pyIter_ascii ha ⟨s1.heap.objs.size, [s1.heap.objs.size], _, _, H1, rfl, I1.kept (t' := s1.toks) fun b o q => Heap.get?_push_of_some _ q, turn_str _ (by decide) (fun A hA => Walks.strAscii hA _ t tk) (fun A i s Q E st h => wpAny_pyIter_striter_ascii st h), ⟨_, Heap.get?_push_size _ rfl, rfl, rfl⟩, fp, q⟩
  | false => exact wpAny_pyIter_wide ha ⟨s1.heap.objs.size, [s1.heap.objs.size], _, _, H1, rfl, I1.kept (t' := s1.toks) fun b o q => Heap.get?_push_of_some _ q, turn_str _ (by decide) (fun A hA => Walks.strWide hA _ t tk) (fun A i s Q E st h => wpAny_pyIter_striter_wide st h), ⟨_, Heap.get?_push_size _ rfl, rfl, rfl⟩, fp, q⟩
theorem walk_str {K : PySem.W.Frag} {B : Hp} (x : Str) : Walk K (Its x) B (signsD x) := by
  intro i os1 H1 L g
  have hl : (signsD x).length = x.cps.size := by simp [signsD]
  refine ⟨fun d hd => ?_, fun h => h.trans hl⟩
  have hi : i < x.cps.size := by rw [← hl]; exact (List.getElem?_eq_some_iff.mp hd).1
  refine ⟨hi, fun v H2 z => ?_⟩
  obtain ⟨rfl, c, hc, rfl⟩ := z
  have e : d = .str ⟨#[c]⟩ := by
    unfold signsD at hd
    rw [List.getElem?_map, Array.getElem?_toList, hc] at hd
    exact (Option.some.inj hd).symm
  subst e
  exact ⟨Same.refl _, .str _⟩
theorem di_str {l tg : Expr} (h : DE X l ma) : DI X tg l (iStr ma) := by
  obtain ⟨t, p, q⟩ := h
  refine ⟨_, pi_str p, fun os σ H δ xs R s m k => ?_⟩
  obtain ⟨d, e1, m⟩ := bind_inv m
  refine q os σ H δ d _ s e1 fun v H1 g1 r1 => ?_
  cases d with
  | str x => cases m; exact ⟨x, r1.str_inv, k _ H1 g1 (walk_str x)⟩
  | _ => cases m
/-! int -/
theorem call_intT : CallR X (.type "int") (fun xs H Q => ∃ x n, xs = [.str x] ∧ PySem.intText? x = some n ∧ x.length ≤ 640 ∧ Q (.int n) H) := by
  intro pins s σ H xs us Q I r h
  obtain ⟨x, n, rfl, h1, h2, q⟩ := h
  obtain ⟨u, rfl, ru⟩ := r.one
  obtain ⟨t, rfl⟩ := ru
  exact PySem.W.KIN.call_text h1 h2 ⟨.int n, H, I.tok _, ⟨_, rfl⟩, q⟩
theorem cd_int : CallD X (.type "int") fInt := by
  refine ⟨_, callR_or call_intT call_int1, fun os H L ds d vs Q r m k => ?_⟩
  match ds, m with
  | [.str x], m =>
    have m' : (if x.length ≤ 640 then (PySem.intText? x).bind fun n => some (D.int n) else none) = some d := m
    split at m'
    · rename_i hz
      obtain ⟨n, e, m'⟩ := bind_inv m'
      cases m'
      obtain ⟨v, rfl, h⟩ := one_of r
      exact .inl ⟨x, n, by rw [h.str_inv], e, hz, k _ H (Same.refl _) (.int _)⟩
    · cases m'
  | [.int i], m =>
    cases m
    obtain ⟨v, rfl, h⟩ := one_of r
    exact .inr (.inl ⟨i, by rw [h.int_inv], k _ H (Same.refl _) (.int _)⟩)
  | [.bl b], m =>
    cases m
    obtain ⟨v, rfl, h⟩ := one_of r
    exact .inr (.inr ⟨b, by rw [h.bl_inv], k _ H (Same.refl _) (.int _)⟩)
/-! is None -/
theorem isN_val {K : PySem.W.Frag} {H : Hp} {d : D} {x : V} (h : Den K H d x) : decide (x = .non) = isN d := by
  cases d with
  | non => rw [h.non_inv]; rfl
  | bl b => rw [h.bl_inv]; rfl
  | int i => rw [h.int_inv]; rfl
  | str i => rw [h.str_inv]; rfl
  | tup ds => obtain ⟨a, xs, rfl, _⟩ := h.tup_inv; rfl
  | lst ds => obtain ⟨a, xs, rfl, _⟩ := h.lst_inv; rfl
  | dic ks ds => obtain ⟨a, xs, rfl, _⟩ := h.dic_inv; rfl
theorem de_isn {j : Nat} (ha : DE X a ma) : DE X (.Compare a [.Is] [.Constant .none j p2] pos) (eUn uIsN ma) := by
  obtain ⟨ta, pa, qa⟩ := ha
  refine ⟨_, pe_cmpR op_isN pa pe_non (nomark _), fun os σ H δ d Q s m kq => ?_⟩
  obtain ⟨dx, e1, m⟩ := bind_inv m
  cases m
  exact qa os σ H δ dx _ s e1 fun x H1 g1 r1 => ⟨rfl, by rw [isN_val r1]; exact kq _ H1 g1 (.bl _)⟩
theorem de_isnotn {j : Nat} (ha : DE X a ma) : DE X (.Compare a [.IsNot] [.Constant .none j p2] pos) (eUn uIsNotN ma) := by
  obtain ⟨ta, pa, qa⟩ := ha
  refine ⟨_, pe_cmpR op_notN pa pe_non (nomark _), fun os σ H δ d Q s m kq => ?_⟩
  obtain ⟨dx, e1, m⟩ := bind_inv m
  cases m
  exact qa os σ H δ dx _ s e1 fun x H1 g1 r1 => ⟨rfl, by rw [isN_val r1]; exact kq _ H1 g1 (.bl _)⟩
theorem dt_isn {j : Nat} (ha : DE X a ma) : DT X (.Compare a [.Is] [.Constant .none j p2] pos) (tV (eUn uIsN ma)) := by
  obtain ⟨ta, pa, qa⟩ := ha
  refine ⟨_, pt_cmpR op_isN pa pe_non (nomark _), fun os σ H δ z Q s m kq => ?_⟩
  obtain ⟨d, m1, m2⟩ := bind_inv m
  obtain ⟨dx, e1, m1⟩ := bind_inv m1
  cases m1
  cases m2
  exact qa os σ H δ dx _ s e1 fun x H1 g1 r1 => ⟨rfl, _, by rw [isN_val r1], kq H1 g1⟩
theorem dt_isnotn {j : Nat} (ha : DE X a ma) : DT X (.Compare a [.IsNot] [.Constant .none j p2] pos) (tV (eUn uIsNotN ma)) := by
  obtain ⟨ta, pa, qa⟩ := ha
  refine ⟨_, pt_cmpR op_notN pa pe_non (nomark _), fun os σ H δ z Q s m kq => ?_⟩
  obtain ⟨d, m1, m2⟩ := bind_inv m
  obtain ⟨dx, e1, m1⟩ := bind_inv m1
  cases m1
  cases m2
  exact qa os σ H δ dx _ s e1 fun x H1 g1 r1 => ⟨rfl, _, by rw [isN_val r1], kq H1 g1⟩
/-! the module's texts and tuples -/
theorem de_globS {x z : Str} {t : Tok} (hg : Gl X x) (hm : X.mg x = some (.str z t)) (hd : (x == ("__debug__" : Str)) = false := by decide) : DE X (.Name x pos) (eC (.str z)) :=
  de_c (pe_glob (v := .str z) hg hm ⟨t, rfl⟩ hd) fun _ => .str z
theorem di_globT {x : Str} {tg : Expr} {b : Addr} {zs : List Str} {o : Obj} {its : Array Value} {n : Nat} (hg : Gl X x) (hm : X.mg x = some (.ref b)) (hk : X.K.lookup b = some o) (hc : o.cls = .type "tuple") (hd : o.data = .seq its n) (hz : its.size ≤ sizeLine) (hv : Vals (zs.map V.str) its.toList)
    (hdb : (x == ("__debug__" : Str)) = false := by decide) : DI X tg (.Name x pos) (iC (zs.map D.str)) := by
  refine ⟨_, pi_either (pe_glob (v := .ref b) hg hm rfl hdb), fun os σ H δ xs R s m k => ?_⟩
  cases m
  have hs : ∀ H', SqT X.K H' b (zs.map V.str) := fun H' => .inr ⟨o, its, n, hk, hc, hd, hz, hv⟩
  exact ⟨b, rfl, .inr ⟨⟨_, hs H⟩, k _ H (Same.refl _) (walk_tup (hs _) (dens_strs zs))⟩⟩
end
end DL

set_option Elab.async false
set_option linter.all false
set_option maxRecDepth 100000
namespace DL
open PySem PySem.Spec PyProof.Rows L2
/-! ### a context with other pins and another wish -/
def onC (X : Cx) (pn : List (Addr × Obj)) (E : Value → Shared → Prop) : Cx := { X with pn := pn, xe := E }
section
variable {X : Cx} {pins pins' pn : List (Addr × Obj)} {σ : L2.St} {H H1 H' : Hp} {s s1 s' : Shared} {E : Value → Shared → Prop} {os : List Addr} {δ : Ev}
theorem ok_on (ok : X.Ok) : (onC X pn E).Ok := ⟨ok.mod, ok.kind, ok.glob, ok.blt, ok.above, ok.inj, ok.has, ok.cab, ok.hd, ok.frames, ok.stk, ok.exf, ok.bs, ok.bsz, ok.noex, ok.exfs, ok.funs, ok.frf⟩
theorem ok_off (ok : (onC X pn E).Ok) : X.Ok := ⟨ok.mod, ok.kind, ok.glob, ok.blt, ok.above, ok.inj, ok.has, ok.cab, ok.hd, ok.frames, ok.stk, ok.exf, ok.bs, ok.bsz, ok.noex, ok.exfs, ok.funs, ok.frf⟩
theorem inv_on (I : Inv X pins σ H s) : Inv (onC X (X.pn ++ pins) E) [] σ H s := ⟨ok_on I.ok, I.os, I.bare, I.base, I.loc, I.cell, I.free, I.freeC, fun p hp => I.pin p (by simpa [onC] using hp), I.hok, I.len⟩
theorem inv_off (I : Inv (onC X (X.pn ++ pins) E) pins' σ H s) : Inv X pins σ H s := ⟨ok_off I.ok, I.os, I.bare, I.base, I.loc, I.cell, I.free, I.freeC, fun p hp => I.pin p (List.mem_append_left _ hp), I.hok, I.len⟩
theorem sl_on (h : Sl X os H δ σ) : Sl (onC X pn E) os H δ σ := ⟨h.n, h.len, h.pl, h.ow, h.inj, h.live, h.keep⟩
end
/-- an error that a call raised: s1 the state ahead of the call, s' behind it -/
def ErrAt (X : Cx) (cl : Value) (σ : L2.St) (H : Hp) (e : Value) (s' : Shared) : Prop :=
  ∃ s1 H1 H' ea T a0, e = .ref ea ∧ Inv X [] σ H1 s1 ∧ Same H H1 ∧ s'.os = s1.os ∧ AllBare s'.gens ∧ Un (frs X.stack) [] H1 H' s1.heap s'.heap ∧ HOk X.prog X.w H' s'.heap ∧ Same H1 H' ∧ ErrT s'.heap ea T cl a0 .none ∧
    s1.heap.get? ea = none ∧ s1.heap.get? T = none ∧ H' ea = none ∧ H' T = none
/-- what may raise, read at one place: the names and the heap are known behind the error, too -/
def DY (X : Cx) (cl : Value) (e : Expr) (m : MEX) : Prop := ∀ (pn : List (Addr × Obj)) (E : Value → Shared → Prop) (os : List Addr) (σ : L2.St) (H : Hp) (δ : Ev) (r : Option D), Sl X os H δ σ → m δ = some r →
  ∃ t : TE, PE (onC X pn E) e t ∧ ∀ Q, REnd (∀ x s', ErrAt (onC X pn E) cl σ H x s' → E x s') (fun d => Fin X.K os H d Q) r → t σ H Q
section
variable {X : Cx} {cl : Value} {e : Expr} {es : List Expr} {pos p : Pos}
theorem dy_call {f : Addr} {fd : FuncData} {ps : List Str} {k : Nat} {x : Str} {fn : MX} {m : MA} (F : FnOk X.prog X.w X.K X.mg X.base (CXe X.prog X.w cl) k f fd ps (spX X.K fn)) (hr : Room k X.A) (hg : Gl X x) (hm : X.mg x = some (.ref f)) (hk : PySem.W.keepIn X.K (.ref f) = true) (hb : Binds X.K fd ps [])
    (ha : ∀ pn E, DA (onC X pn E) (e :: es) m) (hdb : (x == ("__debug__" : Str)) = false := by decide) (he : starEach (e :: es) X.env = (false, eval e X.env) :: starEach es X.env := by rfl) (hpl : (backTo pos (starEach es X.env)).any (·.1) = false := by rfl) :
    DY X cl (.Call (.Name x p) (e :: es) [] pos) (xCall fn m) := by
  intro pn E os σ H δ r sl mm
  obtain ⟨hl, t, pt, q⟩ := ha pn E
  refine ⟨fun σ2 H2 Q => t σ2 H2 fun vs H1 => σ2 = σ ∧ Same H H1 ∧ spX X.K fn vs H1 Q (fun c _ _ => c = cl → ∀ x s', ErrAt (onC X pn E) cl σ H x s' → E x s'), ?_, fun Q k => ?_⟩
  · intro pins s σ2 H2 Q I h
    refine wpAny_Call_Name_kw (ld_glob I hg hm ?_ hdb)
    refine PySem.W.callWith_K (h₀ := X.base) I.ok.mod.kin hk (thn (pt pos pins s σ2 H2 _ I h) fun us s1 ⟨vs, H1, I1, r1, es1, g1, q1⟩ => ⟨I1.kIn, ?_⟩) he hpl
    subst es1
    have hl2 : us.length = ps.length := by rw [← r1.length]; exact F.len _ _ _ _ q1
    have hb' := hb s1 us I1.kIn (by rw [List.append_nil]; exact hl2)
    rw [List.append_nil] at hb'
    refine wpAny_call (codeAny_mono (F.run X.A X.stack s1 H1 ⟨us, []⟩ us vs Q _ hr I1.env0 hb' r1 q1) fun res s' hq => ?_)
    cases res with
    | error x =>
      obtain ⟨H', ea, T, a0, e1, ho, hbr, un, hok, sm, et, n1, n2, n3, n4, hR⟩ := (show CXe X.prog X.w cl X.stack H1 s1 (fun c _ _ => c = cl → ∀ x s', ErrAt (onC X pn E) cl σ2 H x s' → E x s') x s' from hq)
      exact hR rfl x s' ⟨s1, H1, H', ea, T, a0, e1, I1.pins_of (fun p hp => absurd hp (by simp)), g1, ho, hbr, un, hok, sm, et, n1, n2, n3, n4⟩
    | ok fl =>
      cases fl with
      | ret u => exact I1.after hq
      | next => exact False.elim hq
      | brk => exact False.elim hq
      | cont => exact False.elim hq
  · obtain ⟨ds, e1, mm⟩ := bind_inv mm
    refine q os σ H δ ds _ (sl_on sl) e1 fun vs H1 g1 r1 => ⟨rfl, g1, os, ds, r, sl.live.mono g1, r1, mm, ?_⟩
    cases r with
    | some d => exact Fin.mono g1 k
    | none => exact fun c H2 _ _ => k
end
/-! ### behind the error: the frame as it was -/
section
variable {X : Cx} {cl : Value} {σ : L2.St} {H1 H' : Hp} {s1 s' : Shared} {ea T : Addr} {a0 : Value} {h6 : Heap} {pins : List (Addr × Obj)}
abbrev hid (X : Cx) (s' : Shared) (ea T : Addr) : Heap := PySem.W.hideAll s'.heap ([ea, T] ++ frs X.stack)
theorem err_fly (I1 : Inv X pins σ H1 s1) (un : Un (frs X.stack) [] H1 H' s1.heap s'.heap) (hok : HOk X.prog X.w H' s'.heap) (ho : s'.os = s1.os) (hb : AllBare s'.gens) (et : ErrT s'.heap ea T cl a0 .none) : Heap.FlyingW (hid X s' ea T) X.stack ea cl a0 s'.heap := by
  have J := I1.call' (s' := s') (ch := []) ho un hok hb (fun b z => absurd z (by simp))
  obtain ⟨oe, vs, oT, ts, he, hc, h0, hd, h1, hTe, hT, hdT, h3⟩ := et
  have tn : (hid X s' ea T).get? T = none := PySem.W.hideAll_none _ (by simp)
  have ff := PySem.W.funFrames_hide (as := [ea, T] ++ frs X.stack) (show s'.heap.FunFrames X.base X.stack from J.stack) (fun env he b hb => List.mem_append_right _ (mem_frs he hb))
  exact ⟨fun b o q => PySem.W.of_hideAll _ q, PySem.W.hideAll_none _ (by simp), ff, ⟨oe, vs, T, oT, ts, he, ⟨hc, h0⟩, hd, h1, tn, hTe, hT, hdT, h3⟩⟩
/-- whatever was noted meanwhile, the frame's state is kept; the error's object is there, and no one else's -/
theorem err_back (I1 : Inv X pins σ H1 s1) (un : Un (frs X.stack) [] H1 H' s1.heap s'.heap) (hok : HOk X.prog X.w H' s'.heap) (ho : s'.os = s1.os) (hb : AllBare s'.gens) (n1 : s1.heap.get? ea = none) (n2 : s1.heap.get? T = none) (n3 : H' ea = none) (n4 : H' T = none)
    (fly : Heap.FlyingW (hid X s' ea T) X.stack ea cl a0 h6) (up : s'.heap.UpToSlots h6) : Inv X pins σ H' { s' with heap := h6 } ∧ ∃ oe, h6.get? ea = some oe ∧ oe.cls = cl ∧ (∀ v, oe.data ≠ .cell v) ∧ ea ≠ X.env.locals ∧ ea ∉ X.fs := by
  have J := I1.call' (s' := s') (ch := []) ho un hok hb (fun b z => absurd z (by simp))
  obtain ⟨k1, _, k2, k3⟩ := fly
  have nfr : ∀ b, b ∈ frs X.stack → ∃ o, s'.heap.get? b = some o ∧ ∀ ws, o.data ≠ .fields ws := fun b hb => (J.stack.mem hb).2
  have go : ∀ b o, s'.heap.get? b = some o → b ≠ ea → b ≠ T → b ∉ frs X.stack → h6.get? b = some o := fun b o q q1 q2 q3 => k1 b o (PySem.W.hideAll_get _ q fun z => by
    rcases List.mem_append.mp z with z | z
    · rcases List.mem_cons.mp z with z | z
      · exact q1 z
      · exact q2 (List.mem_singleton.mp z)
    · exact q3 z)
  have new : ∀ b o, s1.heap.get? b = some o → b ≠ ea ∧ b ≠ T := fun b o q => ⟨fun z => (by rw [z, n1] at q; cases q), fun z => (by rw [z, n2] at q; cases q)⟩
  have slots : ∀ b, b ∈ frs X.stack → ∀ o, s'.heap.get? b = some o → ∃ sl, h6.get? b = some { o with slots := sl } := fun b hb o q => by
    obtain ⟨o', q', nf⟩ := nfr b hb
    rw [q] at q'
    cases q'
    exact up b o q nf
  have u2 : Un (frs X.stack) [] H1 H' s1.heap h6 := by
    refine ⟨fun b o q nb q1 q2 => go b o (un.keep b o q nb q1 q2) (new b o q).1 (new b o q).2 q1, fun b o q nb q1 q2 => ?_, fun b o q nb q2 => un.free b o q nb q2, fun b o q q2 => ?_, un.tups, un.frzs, un.tbls⟩
    · obtain ⟨sl, q3⟩ := un.slot b o q nb q1 q2
      obtain ⟨sl2, q4⟩ := slots b q1 _ q3
      exact ⟨sl2, q4⟩
    · obtain ⟨o', q3⟩ := un.there b o q q2
      by_cases hb : b ∈ frs X.stack
      · obtain ⟨sl, q4⟩ := slots b hb _ q3
        exact ⟨_, q4⟩
      · exact ⟨o', go b o' q3 (new b o q).1 (new b o q).2 hb⟩
  have trk : ∀ b u, H' b = some u → b ≠ ea ∧ b ≠ T ∧ b ∉ frs X.stack := fun b u q => by
    refine ⟨fun z => ?_, fun z => ?_, fun z => ?_⟩
    · rw [z, n3] at q; cases q
    · rw [z, n4] at q; cases q
    · rw [J.stkFree b z] at q; cases q
  have ok2 : HOk X.prog X.w H' h6 := fun b u q => by
    refine (hok b u q).stay (fun c v hc qc => ?_) (fun _ q => q) fun _ _ q => q
    have tr : c ≠ ea ∧ c ≠ T ∧ c ∉ frs X.stack := by
      rcases hc with rfl | hc
      · exact trk c u q
      · exact trk c _ hc
    exact go c v qc tr.1 tr.2.1 tr.2.2
  have I6 := I1.call' (s' := { s' with heap := h6 }) (ch := []) ho u2 ok2 hb (fun b z => absurd z (by simp))
  obtain ⟨oe, vs, T2, oT, ts, he, ⟨hc, h0⟩, hd, r⟩ := k3
  have ncell : ∀ v, oe.data ≠ .cell v := fun v z => by rw [hd] at z; cases z
  refine ⟨I6, oe, he, hc, ncell, fun z => ?_, fun z => ?_⟩
  · obtain ⟨m, ⟨o, es, ep, q, qd, _⟩, _⟩ := I6.loc
    rw [← z] at q
    have q' : h6.get? ea = some o := q
    rw [he] at q'
    cases q'
    rw [hd] at qd
    cases qd
  · obtain ⟨_, o, q, nf⟩ := I6.funs.mem z
    have q' : h6.get? ea = some o := q
    rw [he] at q'
    cases q'
    exact nf _ hd
/-- the name of the error is let go -/
theorem name_gone {M : Model} {A : Around} {E : Value → Shared → Prop} {s : Shared} {H : Hp} {k : Nat} {n : Str} {pos : Pos} {Q : Unit → Shared → Prop} (I : Inv X pins σ H s) (hN : X.N.Nodup) (hk : X.N[k]? = some n) (hl : X.env.kindOf n = some .local)
    (h : ∀ s', Inv X pins (σ.set k none) H s' → Q () s') : wpAny M A (do bindName X.env n .none; unbindBehindTheSuite X.env n pos) Q E s := by
  obtain ⟨m, hn, hlk⟩ := id I.loc
  have hcls : (X.env.scope.kind == .class || (X.env.scope.kind == .module && X.env.locals != X.env.globals)) = false := by rw [I.ok.kind]; rfl
  refine wpAny_nameGoes_keeps hl hn hcls fun h' v hn' hs => h _ ?_
  have off : ∀ b o, X.s₀.heap.get? b = some o → b ≠ X.env.locals := fun b o q => Nat.ne_of_lt (Nat.lt_of_lt_of_le (Heap.lt_size q) I.ok.above)
  refine ⟨I.ok, I.os, I.bare, ⟨fun b o q n1 n2 n3 => (hs.2 b (off b o q)).trans (I.base.keep b o q n1 n2 n3), fun b o q n1 n2 n3 => ?_, I.base.free, fun b o q n3 => ?_, I.base.tups, I.base.frzs, I.base.tbls⟩, ⟨_, hn', fun j y w e1 e2 e3 => ?_⟩, fun y c e => ?_, I.free, I.freeC, fun p hp => ?_, fun b u q => ?_, by simpa using I.len⟩
  · obtain ⟨sl, q1⟩ := I.base.slot b o q n1 n2 n3
    exact ⟨sl, (hs.2 b (off b o q)).trans q1⟩
  · obtain ⟨o', q1⟩ := I.base.there b o q n3
    exact ⟨o', (hs.2 b (off b o q)).trans q1⟩
  · have hj : j ≠ k := fun z => by
      subst z
      by_cases hlt : j < σ.length
      · rw [List.getElem?_set_self hlt] at e2; cases e2
      · rw [List.getElem?_eq_none (by simpa using hlt)] at e2; cases e2
    rw [List.getElem?_set_ne (Ne.symm hj)] at e2
    obtain ⟨u, r, l⟩ := hlk j y w e1 e2 e3
    have hy : y ≠ n := fun z => hj (nodup_ix hN e1 (z ▸ hk))
    refine ⟨u, r, ?_⟩
    rcases l with ⟨l1, l2⟩ | ⟨l1, c, l2, l3⟩
    · exact .inl ⟨l1, by show (if y = n then v else m y) = some u; rw [if_neg hy]; exact l2⟩
    · exact .inr ⟨l1, c, l2, l3.sameBut hs (I.cne y c l2)⟩
  · obtain ⟨w, z⟩ := I.cell y c e
    exact ⟨w, z.sameBut hs (I.cne y c e)⟩
  · obtain ⟨e1, e2, e3, e4, e5⟩ := I.pin p hp
    exact ⟨(hs.2 p.1 e3).trans e1, e2, e3, e4, e5⟩
  · refine (I.hok b u q).stay (fun c w hc qc => (hs.2 c ?_).trans qc) (fun _ q => q) fun _ _ q => q
    rintro rfl
    rcases hc with rfl | hc
    · rw [I.free] at q; cases q
    · rw [I.free] at hc; cases hc
end

/-! ### isinstance of an error, whatever its dict is -/
structure ClsOk (K : PySem.W.Frag) (D : Addr) : Prop where
  get : PySem.W.findIn K (.ref D) "__getattribute__" = some (some (.builtin "BaseException.__getattribute__"))
  hook : PySem.W.findIn K (.ref D) "__getattr__" = some none
  exc : PySem.W.mroIn K D (.type "BaseException") = some true
  has : PySem.W.hasDictIn K D = true
  cls : PySem.W.findIn K (.ref D) "__class__" = some (some (.builtin "object.__class__"))
  dget : PySem.W.specialIn K (.builtin "object.__class__") "__get__" = some (some (.builtin "getset_descriptor.__get__"))
  takes : PySem.W.takesIn K (.builtin "object.__class__") = some true
  mro : PySem.W.mroIn K D (.type "object") = some true
def IsOf (e D : Addr) (h : Heap) : Prop := ∃ o, h.get? e = some o ∧ o.cls = .ref D
theorem IsOf.ty {e D : Addr} {h : Heap} (M : Model) (p : IsOf e D h) : PySem.W.Looks M h (typeOf (.ref e)) (.ref D) := by
  obtain ⟨o, h1, h2⟩ := p
  exact h2 ▸ (PySem.W.Looks.ld h1).andThen .now
theorem is_type {K : PySem.W.Frag} {D : Addr} {h : Heap} (M : Model) (X : K.In h) (c : PySem.W.hasDictIn K D = true) : PySem.W.Looks M h (isType (.ref D)) true :=
  fun A Q E s k q => PySem.W.mc_isType (s := s) (X.keeps k) c A Q E s (fun _ _ e => e) q
theorem class_any {K : PySem.W.Frag} {e D : Addr} {prog : Program} {w : World} {A : Around} {E : Value → Shared → Prop} {s : Shared} {Q : Option Value → Shared → Prop} (c : ClsOk K D) (X : K.In s.heap) (p : IsOf e D s.heap) (h : Q (some (.ref D)) { s with toks := s.toks + 1 }) :
    wpAny (model prog w) A (getAttr? (.ref e) "__class__") Q E s := by
  obtain ⟨h0, g, d, t, os⟩ := s
  have L0 := p.ty (model prog w)
  have L1 := PySem.W.looks_findIn (M := model prog w) X c.get
  have L2 := PySem.W.looks_findIn (M := model prog w) X c.hook
  have L3 := PySem.W.looks_findIn (M := model prog w) X c.cls
  have L4 := PySem.W.looks_specialIn (M := model prog w) X c.dget
  have L5 := PySem.W.looks_takesIn (M := model prog w) X c.takes
  have L6 := PySem.W.looks_mroIn (M := model prog w) X c.mro
  have L8 := PySem.W.looks_mroIn (M := model prog w) X c.exc
  unfold getAttr?
  unfold getAttrBy?
  unfold getAttrBy
  refine wpAny_bind (wpAny_mkText (wpAny_bind (wpAny_attempt (wpAny_holding ?_))))
  iterate 4 lk
  have hne : (onTheHeap (Value.ref D) && Value.builtin "BaseException.__getattribute__" == Value.builtin "object.__getattribute__") = false := by
    rw [show (Value.builtin "BaseException.__getattribute__" == Value.builtin "object.__getattribute__") = false by decide +kernel]
    rfl
  simp only [hne, if_false, Bool.false_eq_true]
  have L9 : PySem.W.Looks (model prog w) h0 (typeOf (.builtin "BaseException.__getattribute__")) (.type "wrapper_descriptor") := PySem.W.Looks.of_pure (by show builtinType _ = _; rw [builtinType_eq_fast]; kernel_rfl)
  unfold getAttrByItsOwn hookBefore callGetattribute boundAndCalled bindSpecial
  simp only [show onTheHeap (Value.ref D) = true from rfl, if_true, Bool.false_and, Bool.false_eq_true, if_false]
  iterate 40 (first | (with_reducible show codeAny _ _ _ _ _) | with_reducible refine wpAny_call ?_ | with_reducible refine wpAny_attempt ?_ | lk | rw [if_pos (by decide +kernel)])
  refine codeAny_call_builtin PySem.F.attr_ValueError.ga.plain PySem.F.entry_bexc_ga ?_
  have kd : builtinKind "BaseException.__getattribute__" = some .slot := by decide +kernel
  have hsp : splitId "BaseException.__getattribute__" = some ("BaseException", "__getattribute__") := by decide +kernel
  have hargs := PySem.F.args_bexc_ga (.ref e) (.str "__class__" t)
  simp only [checkBuiltinCall, kd, hsp, List.cons_append, List.nil_append]
  unfold isInstance
  refine wpAny_bind (wpAny_bind (L0.at (L8.at ?_)))
  refine wpAny_of_eq hargs (show wpAny _ _ (Builtin.«object.__getattribute__» _) _ _ _ from ?_)
  delta Builtin.«object.__getattribute__»
  iterate 60 (first | (with_reducible show codeAny _ _ _ _ _) | with_reducible refine wpAny_call ?_ | lk)
  refine codeAny_call_builtin PySem.W.KF.slot_gs.plain PySem.W.KF.entry_gs (PySem.W.KF.slot_gs.check _ _ _ _ _ _ _ _ PySem.W.KF.type_class (PySem.W.KF.args_gs _ _ _) ?_)
  unfold Builtin.«getset_descriptor.__get__» Builtin.Getset_descriptor.descrGet
  rw [PySem.W.dga_obj]
  unfold Builtin.Getset_descriptor.descrGetter Builtin.Getset_descriptor.descrCheckInstance Builtin.Getset_descriptor.descrNameAndClass
  have L7 : PySem.W.Looks (model prog w) h0 (isSubtype (.ref D) (.type (Builtin.Getset_descriptor.descrOwnerAndName "object.__class__").fst)) true := by
    rw [PySem.W.KF.owner_class]
    exact L6
  unfold isInstance
  repeat lk
  refine ⟨Code.quiet_builtin _ (by decide +kernel), codeAny_builtin PySem.W.KF.entry_class ?_⟩
  delta Builtin.«object.__class__»
  unfold shownTypeOf
  repeat lk
  exact h
theorem kitx_err {K : PySem.W.Frag} {e D : Addr} (c : ClsOk K D) : PySem.W.KitX K (.ref e) (.ref D) (IsOf e D) where
  ty := fun M h _ p => p.ty M
  it := fun M h X _ => is_type M X c.has
  ne := fun _ tp _ _ _ _ X htp => by
    have hd : D ≠ tp := fun z => by
      subst z
      obtain ⟨cd, hc, _⟩ := PySem.W.any_some c.has
      unfold PySem.W.clsIn at hc
      split at hc
      · rename_i ho
        cases (X _ _ ho).symm.trans htp
      · cases hc
    simpa using hd
  ca := fun X p k => class_any c X p k
end DL

set_option Elab.async false
set_option linter.all false
set_option maxRecDepth 100000
namespace DL
open PySem PySem.Spec PyProof.Rows L2
/-! ### try: x = .. except B as e: if isinstance(e, C) and not isinstance(e, D) and isinstance(e, ValueError): x = c -/
section
variable {X : Cx} {cl : Value} {Nw : Addr → Prop} {e : Expr} {es : List Expr} {pos p : Pos}
theorem dx_ofE {me : ME} (h : DE X e me) : DX X cl Nw e (xOf me) := dx_of h
theorem dx_callE {f : Addr} {fd : FuncData} {ps : List Str} {k : Nat} {x : Str} {fn : MX} {m : MA} (hn : NewOk X Nw) (F : FnOk X.prog X.w X.K X.mg X.base (CXe X.prog X.w cl) k f fd ps (spX X.K fn)) (hr : Room k X.A) (hg : Gl X x) (hm : X.mg x = some (.ref f)) (hk : PySem.W.keepIn X.K (.ref f) = true) (hb : Binds X.K fd ps [])
    (ha : DA X (e :: es) m) (hdb : (x == ("__debug__" : Str)) = false := by decide) (he : starEach (e :: es) X.env = (false, eval e X.env) :: starEach es X.env := by rfl) (hpl : (backTo pos (starEach es X.env)).any (·.1) = false := by rfl) :
    DX X cl Nw (.Call (.Name x p) (e :: es) [] pos) (xCall fn m) := dx_call hn F hr hg hm hk hb ha hdb he hpl
theorem dx_callTyE {T : String} {x : Str} {fn : MF} {m : MEX} (hc : CallD X (.type T) fn) (hg : Gl X x) (hm : X.mg x = none) (hv : bootBuiltins x = some (.type T)) (ha : DX X cl Nw e m) (hn : x ≠ "__name__" := by decide) (hdb : (x == ("__debug__" : Str)) = false := by decide)
    (hs : starEach [e] X.env = (false, eval e X.env) :: starEach [] X.env := by rfl) (he : starEach [e] X.env = (false, eval e X.env) :: starEach [] X.env := by rfl) (hpl : (backTo pos (starEach [] X.env)).any (·.1) = false := by rfl) :
    DX X cl Nw (.Call (.Name x p) [e] [] pos) (xTy fn m) := dx_callTy hc hg hm hv ha hn hdb hs he hpl
end
/-! tests whose answer is known where a name is the error -/
section
variable {Y : Cx} {ea C : Addr} {oe : Obj} {k : Nat} {en : Str} {pos p p2 p3 : Pos}
/-- the context within the suite -/
def suite (X : Cx) (pins : List (Addr × Obj)) (ea : Addr) (oe : Obj) : Cx := { X with A := X.A.mark (some (.ref ea)), calm := false, pn := X.pn ++ pins ++ [(ea, oe)], xe := fun _ _ => False }
theorem suite_in {X : Cx} {pins : List (Addr × Obj)} {σ : L2.St} {H : Hp} {s : Shared} (I : Inv X pins σ H s) (h1 : s.heap.get? ea = some oe) (h2 : H ea = none) (h3 : ea ≠ X.env.locals) (h4 : ea ∉ X.fs) (h5 : ∀ v, oe.data ≠ .cell v) : Inv (suite X pins ea oe) [] σ H s := by
  have ok := I.ok
  refine ⟨⟨ok.mod, ok.kind, ok.glob, ok.blt, ok.above, ok.inj, ok.has, ok.cab, fun z => (nomatch z), ok.frames, ok.stk, ok.exf, ok.bs, ok.bsz, ok.noex, ok.exfs, ok.funs, ok.frf⟩, I.os, I.bare, I.base, I.loc, I.cell, I.free, I.freeC, fun p hp => ?_, I.hok, I.len⟩
  have hp' : p ∈ X.pn ++ pins ++ [(ea, oe)] := by simpa [suite] using hp
  rcases List.mem_append.mp hp' with old | new
  · exact I.pin p old
  · rw [List.mem_singleton.mp new]
    exact ⟨h1, h2, h3, h4, h5⟩
theorem suite_out {X : Cx} {pins : List (Addr × Obj)} {σ : L2.St} {H : Hp} {s : Shared} (I : Inv (suite X pins ea oe) [] σ H s) (J : X.Ok) : Inv X pins σ H s :=
  ⟨J, I.os, I.bare, I.base, I.loc, I.cell, I.free, I.freeC, fun p hp => I.pin p (by simp only [suite, List.append_nil]; exact List.mem_append_left _ hp), I.hok, I.len⟩
def KnT (Y : Cx) (P : L2.St → Prop) (e : Expr) (b : Bool) : Prop := ∃ t : TT, PT Y e t ∧ ∀ σ H Q, P σ → Q b H → t σ H Q
def KnW (Y : Cx) (P : L2.St → Prop) (e : Expr) (b : Bool) : Prop := ∃ t : TT, PW Y e t ∧ ∀ σ H Q, P σ → Q b H → t σ H Q
theorem kn_one {P : L2.St → Prop} {a : Expr} (h : KnT Y P a true) : KnW Y P (.BoolOp .And [a] pos) true := let ⟨t, q, r⟩ := h; ⟨t, pw_and1 q, r⟩
theorem kn_and {P : L2.St → Prop} {a b : Expr} {rest : List Expr} (h : KnT Y P a true) (h' : KnW Y P (.BoolOp .And (b :: rest) pos) true) : KnW Y P (.BoolOp .And (a :: b :: rest) pos) true := by
  obtain ⟨t, q, r⟩ := h
  obtain ⟨t', q', r'⟩ := h'
  exact ⟨_, pw_and q q', fun σ H Q hp hq => r σ H _ hp (iteT (r' σ H Q hp hq))⟩
theorem kn_not {P : L2.St → Prop} {a : Expr} (h : KnT Y P a false) : KnT Y P (.UnaryOp .Not a pos) true := by
  obtain ⟨t, q, r⟩ := h
  exact ⟨_, pt_not q, fun σ H Q hp hq => r σ H _ hp hq⟩
/-- isinstance, of the error that is pinned -/
theorem call_isE {c : Value} {cv : V} {b : Bool} (hpn : (ea, oe) ∈ Y.pn) (hc : oe.cls = .ref C) (cok : ClsOk Y.K C) (hk : PySem.W.kitOne Y.K (.ref C) c = some b) (hv : ∀ u, RelV cv u → u = c) :
    CallR Y (.builtin "isinstance") (fun xs H Q => xs = [.ref ea, cv] ∧ Q (.bl b) H) := by
  rintro pins s σ H xs us Q I r ⟨rfl, q⟩
  obtain ⟨u, w', rfl, rx, rw'⟩ := vals2 r
  cases rx
  have e := hv _ rw'
  subst e
  exact PySem.W.kia_one (kitx_err cok) I.kIn ⟨oe, (I.pin (ea, oe) (List.mem_append_left _ hpn)).1, hc⟩ hk (fun z => nomatch z) fun tk => ⟨.bl b, H, I.tok tk, rfl, q⟩
theorem kn_isE {tn : Str} {tcn : V} {c : Value} {b : Bool} (hpn : (ea, oe) ∈ Y.pn) (hc : oe.cls = .ref C) (cok : ClsOk Y.K C) (hk : PySem.W.kitOne Y.K (.ref C) c = some b) (hv : ∀ u, RelV tcn u → u = c) (hg : Gl Y "isinstance") (hm : Y.mg "isinstance" = none)
    (hen : PE Y (.Name en p2) (tVar k)) (hT : PE Y (.Name tn p3) (L2.tC tcn))
    (h1 : starEach [.Name en p2, .Name tn p3] Y.env = (false, eval (.Name en p2) Y.env) :: starEach [.Name tn p3] Y.env) (h2 : starEach [.Name tn p3] Y.env = (false, eval (.Name tn p3) Y.env) :: starEach [] Y.env)
    (hpl : (backTo pos (starEach [.Name tn p3] Y.env)).any (·.1) = false)
    (htr : ∀ whole, isTrue (.Call (.Name "isinstance" p) [.Name en p2, .Name tn p3] [] pos) Y.env whole = (do let v ← whole; standAt (Expr.pos (.Call (.Name "isinstance" p) [.Name en p2, .Name tn p3] [] pos)); holding [v] (truthy v))) :
    KnT Y (fun σ => σ[k]? = some (some (.ref ea))) (.Call (.Name "isinstance" p) [.Name en p2, .Name tn p3] [] pos) b := by
  have P1 := pe_callB (p := p) (pos := pos) (call_isE hpn hc cok hk hv) hg hm (by rfl) (pa_cons hen (pa_cons hT pa_nil h2) h1) (by decide) (by decide) h1 hpl
  exact ⟨_, pt_truth P1 htr, fun σ H Q hp hq => ⟨_, hp, ⟨rfl, ⟨b, rfl, hq⟩⟩⟩⟩
end

/-! the rule -/
section
variable {X : Cx} {PX : Prop}
theorem Sl.unk {os : List Addr} {H : Hp} {δ : Ev} {σ : L2.St} {k : Nat} {o : Option V} (s : Sl X os H δ σ) (h1 : δ[k]? = some none) (h2 : δ[X.N.length + k]? = none) : Sl X os H δ (σ.set k o) := by
  have ne : ∀ j d, δ[j]? = some (some d) → k ≠ j := fun j d q z => by rw [← z, h1] at q; cases q
  have no : ∀ j d, δ[X.N.length + j]? = some (some d) → k ≠ j := fun j d q z => by rw [← z, h2] at q; cases q
  refine ⟨by simpa using s.n, s.len, fun j d hj q => ?_, fun j d hj q1 q2 => ?_, fun i j d e a hi hj q1 q2 q3 q4 q5 q6 => ?_, s.live, s.keep⟩
  · rw [List.getElem?_set_ne (ne j d q)]
    exact s.pl j d hj q
  · rw [List.getElem?_set_ne (no j d q2)]
    exact s.ow j d hj q1 q2
  · rw [List.getElem?_set_ne (no i d q3)] at q5
    rw [List.getElem?_set_ne (no j e q4)] at q6
    exact s.inj i j d e a hi hj q1 q2 q3 q4 q5 q6
theorem ds_try {n i k : Nat} {x en bc cn dn : Str} {C B Dd : Addr} {call ce : Expr} {mx : MEX} {d : D} {p1 p4 p5 p6 p8 p9 p10 pos pa pb pc pd pe pf pg ph pi' pj pk pl pm pq : Pos}
    (hn : X.N.length = n) (hst : X.stack = X.env :: X.outer ∧ X.env.frame = some X.env.locals) (hN : X.N.Nodup) (hi : X.N[i]? = some x) (hk : X.N[k]? = some en) (hik : i ≠ k) (hxl : X.env.scope.names.lookup x = some .local) (hel : X.env.scope.names.lookup en = some .local) (hel' : X.env.kindOf en = some .local)
    (hb : DY X (.ref C) call mx) (hce : ∀ Y : Cx, ∃ v, PE Y ce (L2.tC v) ∧ ∀ K H, Den K H d v)
    (hgB : Gl X bc) (hmB : X.mg bc = some (.ref B)) (hxm : PySem.W.exmOne X.K (.ref C) (.ref B) = some true) (hgI : Gl X "isinstance") (hmI : X.mg "isinstance" = none) (hgC : Gl X cn) (hmC : X.mg cn = some (.ref C))
    (hgD : Gl X dn) (hmD : X.mg dn = some (.ref Dd)) (hno : PySem.W.kitOne X.K (.ref C) (.ref Dd) = some false) (hgV : Gl X "ValueError") (hmV : X.mg "ValueError" = none) (hev : PySem.W.kitOne X.K (.ref C) (.type "ValueError") = some true) (cok : ClsOk X.K C)
    (hs : swapsWithSole [.Name x p1] call p4.line X.env = pure false := by rfl) (hw : swappedStores [.Name x p1] call X.env = pure none := by rfl) (h1 : (assignEach [.Name x p1] X.env).map (·.2) = [assign (.Name x p1) X.env] := by rfl)
    (hs' : swapsWithSole [.Name x p6] ce p8.line X.env = pure false := by rfl) (hw' : swappedStores [.Name x p6] ce X.env = pure none := by rfl) (h1' : (assignEach [.Name x p6] X.env).map (·.2) = [assign (.Name x p6) X.env] := by rfl)
    (sC1 : starEach [.Name en pb, .Name cn pc] X.env = (false, eval (.Name en pb) X.env) :: starEach [.Name cn pc] X.env := by rfl) (sC2 : starEach [.Name cn pc] X.env = (false, eval (.Name cn pc) X.env) :: starEach [] X.env := by rfl) (sC3 : (backTo pd (starEach [.Name cn pc] X.env)).any (·.1) = false := by rfl)
    (tC : ∀ whole, isTrue (.Call (.Name "isinstance" pa) [.Name en pb, .Name cn pc] [] pd) X.env whole = (do let v ← whole; standAt (Expr.pos (.Call (.Name "isinstance" pa) [.Name en pb, .Name cn pc] [] pd)); holding [v] (truthy v)) := by intro _; rfl)
    (sD1 : starEach [.Name en pf, .Name dn pg] X.env = (false, eval (.Name en pf) X.env) :: starEach [.Name dn pg] X.env := by rfl) (sD2 : starEach [.Name dn pg] X.env = (false, eval (.Name dn pg) X.env) :: starEach [] X.env := by rfl) (sD3 : (backTo ph (starEach [.Name dn pg] X.env)).any (·.1) = false := by rfl)
    (tD : ∀ whole, isTrue (.Call (.Name "isinstance" pe) [.Name en pf, .Name dn pg] [] ph) X.env whole = (do let v ← whole; standAt (Expr.pos (.Call (.Name "isinstance" pe) [.Name en pf, .Name dn pg] [] ph)); holding [v] (truthy v)) := by intro _; rfl)
    (sV1 : starEach [.Name en pj, .Name "ValueError" pk] X.env = (false, eval (.Name en pj) X.env) :: starEach [.Name "ValueError" pk] X.env := by rfl) (sV2 : starEach [.Name "ValueError" pk] X.env = (false, eval (.Name "ValueError" pk) X.env) :: starEach [] X.env := by rfl) (sV3 : (backTo pl (starEach [.Name "ValueError" pk] X.env)).any (·.1) = false := by rfl)
    (tV' : ∀ whole, isTrue (.Call (.Name "isinstance" pi') [.Name en pj, .Name "ValueError" pk] [] pl) X.env whole = (do let v ← whole; standAt (Expr.pos (.Call (.Name "isinstance" pi') [.Name en pj, .Name "ValueError" pk] [] pl)); holding [v] (truthy v)) := by intro _; rfl)
    (db : (bc == ("__debug__" : Str)) = false := by decide) (dc : (cn == ("__debug__" : Str)) = false := by decide) (dd : (dn == ("__debug__" : Str)) = false := by decide) (de : (en == ("__debug__" : Str)) = false := by decide) (de2 : (en == ("__classdict__" : Str)) = false := by decide) :
    DS X PX (.Try [.Assign [.Name x p1] call p4] [.ExceptHandler (some (.Name bc p5)) (some en)
        [.If (.BoolOp .And [.Call (.Name "isinstance" pa) [.Name en pb, .Name cn pc] [] pd, .UnaryOp .Not (.Call (.Name "isinstance" pe) [.Name en pf, .Name dn pg] [] ph) pm, .Call (.Name "isinstance" pi') [.Name en pj, .Name "ValueError" pk] [] pl] p9)
          [.Assign [.Name x p6] ce p8] [] p10] pq] [] [] pos) (sTry n i k mx d) := by
  refine ⟨fun D σ H => ∃ os δ r, Sl X os H δ σ ∧ sTry n i k mx d δ = some r ∧ Ok X PX D os H r, ?_, fun os σ H δ r D s m q => ⟨os, δ, r, s, m, q⟩⟩
  rintro pins s σ H D I ⟨os, δ, r, sl, me, kq⟩
  obtain ⟨hδ1, hδ2, r0, e1, rfl⟩ : δ[k]? = some none ∧ δ[n + k]? = none ∧ ∃ r0, mx δ = some r0 ∧ r = .nx (δ.set i (some (r0.getD d))) := by
    unfold sTry at me
    split at me
    · rename_i q1 q2
      obtain ⟨r0, e1, me⟩ := bind_inv me
      cases me
      exact ⟨q1, q2, r0, e1, rfl⟩
    · cases me
  have hil : i < X.N.length := (List.getElem?_eq_some_iff.mp hi).1
  generalize hEh : (fun (z : Value) (s1 : Shared) => wpAny (model X.prog X.w) X.A (noteFrame z X.env) (fun _ s2 => wpAny (model X.prog X.w) X.A (setFlight z none) (fun _ s3 => wpAny (model X.prog X.w) X.A (handleBy z X.env [.ExceptHandler (some (.Name bc p5)) (some en)
        [.If (.BoolOp .And [.Call (.Name "isinstance" pa) [.Name en pb, .Name cn pc] [] pd, .UnaryOp .Not (.Call (.Name "isinstance" pe) [.Name en pf, .Name dn pg] [] ph) pm, .Call (.Name "isinstance" pi') [.Name en pj, .Name "ValueError" pk] [] pl] p9)
          [.Assign [.Name x p6] ce p8] [] p10] pq]) (SP X pins D) X.xe s3) X.xe s2) X.xe s1) = Eh
  obtain ⟨t, pt, qt⟩ := hb (X.pn ++ pins) Eh os σ H δ r0 sl e1
  have Pa : PS (onC X (X.pn ++ pins) Eh) (.Assign [.Name x p1] call p4) (tAsg t (gName i)) := ps_asg pt (pg_name hN hi (.inl hxl) (.inr hxl)) hs hw h1
  have run : tAsg t (gName i) { nx := D.nx, rt := fun _ _ => False } σ H := by
    refine qt _ ?_
    cases r0 with
    | some d' => exact fun v H' g rv => kq _ H' os (.of g) ((sl.mono g).set i hil rv)
    | none =>
      intro z s' he
      rw [← hEh]
      obtain ⟨s1, H1, H', ea, T, a0, rfl, I1, g1, ho, hbr, un, hok, sm, et, n1, n2, n3, n4⟩ := he
      have J1 : Inv X pins σ H1 s1 := inv_off I1
      have fl : Heap.FlyingW (hid X s' ea T) X.stack ea (.ref C) a0 s'.heap := err_fly J1 un hok ho hbr et
      have hfr : X.A.frames = some (X.env :: X.outer) := hst.1 ▸ I.ok.frames
      show wpAny (model X.prog X.w) X.A (noteFrame (.ref ea) X.env) _ _ s'
      rw [hst.1] at fl
      refine wpAny_looks_onW hfr hst.2 fl fun h4 held4 up4 => ?_
      refine wpAny_landsW held4 fun h5 fly5 up5 => ?_
      obtain ⟨I5, oe5, o5, c5, d5, l5, f5⟩ := err_back J1 un hok ho hbr n1 n2 n3 n4 (by rw [hst.1]; exact fly5) (up4.trans up5)
      have I5m := suite_in I5 o5 n3 l5 f5 d5
      refine wpAny_handleBy_cons (codeAny_handlers_test ?_) (by intro q; cases q)
      refine ld_glob (X := suite X pins ea oe5) I5m hgB hmB ?_ db
      have LT : PySem.W.Looks (model X.prog X.w) h5 (typeOf (.ref ea)) (.ref C) := IsOf.ty _ ⟨oe5, o5, c5⟩
      refine (PySem.W.exm_one I5m.kIn LT hxm).here ?_
      refine codeAny_handlers_suite_as (lands_againW fly5 fun h6 fly6 up6 => ?_)
      obtain ⟨I6, oe6, o6, c6, d6, l6, f6⟩ := err_back J1 un hok ho hbr n1 n2 n3 n4 (by rw [hst.1]; exact fly6) ((up4.trans up5).trans up6)
      have I6m := suite_in I6 o6 n3 l6 f6 d6
      refine store_ok (X := suite X pins ea oe6) (v := .ref ea) I6m hN hk (.inl hel) rfl (fun s7 I7 => ?_) (.inr hel)
      obtain ⟨v, hv, dv⟩ := hce (suite X pins ea oe6)
      have mem : (ea, oe6) ∈ (suite X pins ea oe6).pn := List.mem_append_right _ (List.mem_singleton.mpr rfl)
      have hEn : ∀ q : Pos, PE (suite X pins ea oe6) (.Name en q) (tVar k) := fun q => pe_var hk (.inl hel) de de2
      have K1 : KnT (suite X pins ea oe6) (fun σ => σ[k]? = some (some (.ref ea))) (.Call (.Name "isinstance" pa) [.Name en pb, .Name cn pc] [] pd) true :=
        kn_isE (c := .ref C) (tcn := .ref C) mem c6 cok (by unfold PySem.W.kitOne; rw [if_pos (by simp)]) (fun u r => r) hgI hmI (hEn pb) (pe_glob (v := .ref C) hgC hmC rfl dc) sC1 sC2 sC3 tC
      have K2 : KnT (suite X pins ea oe6) (fun σ => σ[k]? = some (some (.ref ea))) (.Call (.Name "isinstance" pe) [.Name en pf, .Name dn pg] [] ph) false :=
        kn_isE (c := .ref Dd) (tcn := .ref Dd) mem c6 cok hno (fun u r => r) hgI hmI (hEn pf) (pe_glob (v := .ref Dd) hgD hmD rfl dd) sD1 sD2 sD3 tD
      have K3 : KnT (suite X pins ea oe6) (fun σ => σ[k]? = some (some (.ref ea))) (.Call (.Name "isinstance" pi') [.Name en pj, .Name "ValueError" pk] [] pl) true :=
        kn_isE (c := .type "ValueError") (tcn := .ty "ValueError") mem c6 cok hev (fun u r => r) hgI hmI (hEn pj) (pe_bltn (v := .ty "ValueError") hgV hmV (by rfl) rfl) sV1 sV2 sV3 tV'
      obtain ⟨tt, ptt, qtt⟩ := kn_and (pos := p9) K1 (kn_and (kn_not (pos := pm) K2) (kn_one K3))
      have Pc : PS (suite X pins ea oe6) (.Assign [.Name x p6] ce p8) (tAsg (L2.tC v) (gName i)) := ps_asg hv (pg_name hN hi (.inl hxl) (.inr hxl)) hs' hw' h1'
      have Pi := pss_one (ps_if (pos := p10) ptt.pt (pss_one Pc) pss_nil)
      have hkσ : k < σ.length := by rw [sl.n]; exact (List.getElem?_eq_some_iff.mp hk).1
      refine thn2 (Pi [] s7 _ H' { nx := fun σ8 H8 => σ8 = (σ.set k (some (.ref ea))).set i (some v) ∧ H8 = H', rt := fun _ _ => False } I7 (qtt _ _ _ (List.getElem?_set_self hkσ) (iteT ⟨rfl, rfl⟩))) (fun f s8 q => ?_) (fun _ _ q => q.elim)
      cases f with
      | next =>
        obtain ⟨σ8, H8, I8, rfl, rfl⟩ := q
        have J8 := suite_out I8 I.ok
        refine name_gone J8 hN hk hel' fun s9 I9 => ⟨_, _, I9, ?_⟩
        have hn2 : δ[X.N.length + k]? = none := by rw [hn]; exact hδ2
        have s1' := ((sl.mono (g1.trans sm)).unk (o := some (.ref ea)) hδ1 hn2).set i hil (dv X.K _)
        refine kq _ _ os (.of (g1.trans sm)) (s1'.unk (o := none) ?_ ?_)
        · rw [List.getElem?_set_ne hik]
          exact hδ1
        · rw [List.getElem?_set_ne (by omega)]
          exact hn2
      | ret u => obtain ⟨_, _, _, _, _, z⟩ := q; exact z.elim
      | brk => obtain ⟨_, _, _, z⟩ := q; exact z.elim
      | cont => obtain ⟨_, _, _, z⟩ := q; exact z.elim
  refine wpAny_Try_except (thn2 (pss_one Pa [] s σ H _ (inv_on I) run) (fun f s1 q => ?_) (fun z s1 q => ?_))
  · cases f with
    | next =>
      obtain ⟨σ', H', I', q⟩ := q
      exact wpAny_execs_nil ⟨σ', H', inv_off I', q⟩
    | ret u => obtain ⟨_, _, _, _, _, z⟩ := q; exact z.elim
    | brk => obtain ⟨_, _, _, z⟩ := q; exact z.elim
    | cont => obtain ⟨_, _, _, z⟩ := q; exact z.elim
  · have q' : Eh z s1 := q
    rw [← hEh] at q'
    exact q'
end
end DL

set_option Elab.async false
set_option linter.all false
set_option maxRecDepth 100000
/-! Texts as lists of numbers of signs: partition, split, join, and the writing of whole numbers. -/
namespace DL
open PySem PySem.NumText
abbrev Li := List Nat
def S (l : Li) : Str := ⟨l.toArray⟩
abbrev L (x : Str) : Li := x.cps.toList
theorem S_L (x : Str) : S (L x) = x := by cases x; simp [S, L]
theorem L_S (l : Li) : L (S l) = l := by simp [S, L]
theorem S_inj {a b : Li} (h : S a = S b) : a = b := by rw [← L_S a, h, L_S]
theorem L_inj {a b : Str} (h : L a = L b) : a = b := by rw [← S_L a, h, S_L]
theorem L_append (a b : Str) : L (a ++ b) = L a ++ L b := by simp [L, Str.cps_append]
theorem S_append (a b : Li) : S a ++ S b = S (a ++ b) := by apply L_inj; rw [L_append, L_S, L_S, L_S]
theorem len_S (l : Li) : (S l).length = l.length := by simp [S, Str.length]
theorem len_L (x : Str) : (L x).length = x.length := by simp [L, Str.length]
theorem empty_S : Str.empty = S [] := rfl
/-! partition at one sign -/
def cutL (c : Nat) (l : Li) : Li × Li := (l.takeWhile (· != c), (l.dropWhile (· != c)).tail)
theorem at_one (x : Str) (c i : Nat) : StrLaws.At x ⟨#[c]⟩ x.length i ↔ (L x)[i]? = some c := by
  unfold StrLaws.At
  rw [StrLaws.subAt_eq]
  have hl : (⟨#[c]⟩ : Str).length = 1 := rfl
  rw [hl, ← len_L x]
  show i + 1 ≤ (L x).length ∧ (((L x).drop i).take 1 == [c]) = true ↔ _
  constructor
  · rintro ⟨h1, h2⟩
    have e := eq_of_beq h2
    rw [List.drop_eq_getElem_cons (by omega), List.take_succ_cons, List.take_zero] at e
    rw [List.getElem?_eq_getElem (by omega)]
    exact congrArg some (List.cons.inj e).1
  · intro h
    obtain ⟨h1, h2⟩ := List.getElem?_eq_some_iff.mp h
    refine ⟨h1, ?_⟩
    rw [List.drop_eq_getElem_cons h1, h2]
    simp
theorem first_cut (c : Nat) : ∀ (l : Li) (i : Nat), l[i]? = some c → (∀ k, k < i → l[k]? ≠ some c) → l.takeWhile (· != c) = l.take i ∧ l.dropWhile (· != c) = l.drop i
  | [], i, h, _ => by simp at h
  | x :: l, 0, h, _ => by
    simp at h
    subst h
    simp
  | x :: l, i + 1, h, hn => by
    have hx : x ≠ c := fun z => hn 0 (by omega) (by simp [z])
    have ih := first_cut c l i (by simpa using h) fun k hk => by simpa using hn (k + 1) (by omega)
    simp [List.takeWhile_cons, List.dropWhile_cons, hx, ih.1, ih.2]
theorem no_cut (c : Nat) : ∀ (l : Li), (∀ i : Nat, l[i]? ≠ some c) → l.takeWhile (· != c) = l ∧ l.dropWhile (· != c) = []
  | [], _ => by simp
  | x :: l, hn => by
    have hx : x ≠ c := fun z => hn 0 (by simp [z])
    have ih := no_cut c l fun i => by simpa using hn (i + 1)
    simp [List.takeWhile_cons, List.dropWhile_cons, hx, ih.1, ih.2]
theorem part_one (x : Str) (c : Nat) : L (Txt.partition x ⟨#[c]⟩).1 = (cutL c (L x)).1 ∧ L (Txt.partition x ⟨#[c]⟩).2.2 = (cutL c (L x)).2 := by
  unfold Txt.partition cutL
  rcases StrLaws.occ_head x ⟨#[c]⟩ 1 (Nat.le_refl 1) with ⟨h0, hn⟩ | ⟨i, r, h0, hi, hn⟩
  · rw [h0]
    obtain ⟨e1, e2⟩ := no_cut c (L x) fun i hi => hn i ((at_one x c i).mpr hi)
    rw [e1, e2]
    exact ⟨rfl, rfl⟩
  · rw [h0]
    obtain ⟨e1, e2⟩ := first_cut c (L x) i ((at_one x c i).mp hi) fun k hk z => hn k hk ((at_one x c k).mpr z)
    rw [e1, e2]
    have hl : (⟨#[c]⟩ : Str).length = 1 := rfl
    refine ⟨?_, ?_⟩
    · show L (Builtin.Str.strSub x 0 i) = _
      rw [L, StrLaws.strSub_toList]
      simp
    · show L (Builtin.Str.strSub x (i + (⟨#[c]⟩ : Str).length) x.length) = _
      rw [L, StrLaws.strSub_toList, hl, List.take_of_length_le (by rw [List.length_drop, len_L]; omega), List.tail_drop]
theorem cut_of {c : Nat} {a b : Li} (h : c ∉ a) : cutL c (a ++ c :: b) = (a, b) := by
  unfold cutL
  have e1 : ∀ (a : Li), c ∉ a → (a ++ c :: b).takeWhile (· != c) = a ∧ (a ++ c :: b).dropWhile (· != c) = c :: b := by
    intro a
    induction a with
    | nil => intro _; simp
    | cons x a ih =>
      intro h
      have hx : x ≠ c := fun z => h (by simp [z])
      have := ih fun z => h (List.mem_cons_of_mem _ z)
      simp [List.takeWhile_cons, List.dropWhile_cons, hx, this.1, this.2]
  rw [(e1 a h).1, (e1 a h).2]
  rfl
theorem cut_back {c : Nat} {l : Li} (h : (cutL c l).2 ≠ []) : l = (cutL c l).1 ++ c :: (cutL c l).2 := by
  unfold cutL at h ⊢
  simp only at h ⊢
  have e := (List.takeWhile_append_dropWhile (p := (· != c)) (l := l)).symm
  cases hd : l.dropWhile (· != c) with
  | nil => rw [hd] at h; exact absurd rfl h
  | cons y r =>
    have hy : y = c := by
      have := List.head?_dropWhile_not (p := (· != c)) l
      rw [hd] at this
      simpa using this
    rw [hd, hy] at e
    rw [List.tail_cons]
    exact e
/-! split and join at one sign -/
def joinL (c : Nat) : List Li → Li
  | [] => []
  | [a] => a
  | a :: b :: r => a ++ c :: joinL c (b :: r)
def splitL (c : Nat) : Li → List Li
  | [] => [[]]
  | x :: xs => if x = c then [] :: splitL c xs else match splitL c xs with
    | [] => [[x]]
    | y :: ys => (x :: y) :: ys
theorem splitL_ne (c : Nat) : ∀ l, splitL c l ≠ []
  | [] => by simp [splitL]
  | x :: xs => by
    unfold splitL
    split
    · simp
    · split <;> simp
theorem splitL_join (c : Nat) : ∀ l, joinL c (splitL c l) = l
  | [] => rfl
  | x :: xs => by
    have ih := splitL_join c xs
    have hn := splitL_ne c xs
    unfold splitL
    split
    · rename_i e
      subst e
      cases hs : splitL x xs with
      | nil => exact absurd hs hn
      | cons y ys => rw [hs] at ih; simp [joinL, ih]
    · split
      · rename_i hs; exact absurd hs hn
      · rename_i y ys hs
        rw [hs] at ih
        cases ys with
        | nil => simp [joinL] at ih ⊢; exact ih
        | cons z zs => simp [joinL] at ih ⊢; exact ih
theorem splitL_free (c : Nat) : ∀ l, ∀ p ∈ splitL c l, c ∉ p
  | [], p, h => by simp [splitL] at h; simp [h]
  | x :: xs, p, h => by
    have ih := splitL_free c xs
    unfold splitL at h
    split at h
    · rcases List.mem_cons.mp h with rfl | h
      · simp
      · exact ih p h
    · rename_i hx
      split at h
      · rw [List.mem_singleton.mp h]; simp; exact fun z => hx z.symm
      · rename_i y ys hs
        rw [hs] at ih
        rcases List.mem_cons.mp h with rfl | h
        · intro z
          rcases List.mem_cons.mp z with z | z
          · exact hx z.symm
          · exact ih y List.mem_cons_self z
        · exact ih p (List.mem_cons_of_mem _ h)
theorem free_head {c : Nat} : ∀ {a a' : Li} {b b' : Li}, c ∉ a → c ∉ a' → a ++ c :: b = a' ++ c :: b' → a = a' ∧ b = b'
  | [], [], _, _, _, _, h => by simpa using h
  | [], y :: a', _, _, _, h2, h => by
    simp at h
    exact absurd (by simp [h.1]) h2
  | x :: a, [], _, _, h1, _, h => by
    simp at h
    exact absurd (by simp [h.1]) h1
  | x :: a, y :: a', _, _, h1, h2, h => by
    simp at h
    have := free_head (fun z => h1 (List.mem_cons_of_mem _ z)) (fun z => h2 (List.mem_cons_of_mem _ z)) h.2
    exact ⟨by rw [h.1, this.1], this.2⟩
theorem join_inj {c : Nat} : ∀ {xs ys : List Li}, xs ≠ [] → ys ≠ [] → (∀ p ∈ xs, c ∉ p) → (∀ p ∈ ys, c ∉ p) → joinL c xs = joinL c ys → xs = ys
  | [], _, h, _, _, _, _ => absurd rfl h
  | _, [], _, h, _, _, _ => absurd rfl h
  | [a], [b], _, _, _, _, h => by simpa [joinL] using h
  | [a], b :: b2 :: r, _, _, h1, _, h => by
    exfalso
    simp [joinL] at h
    exact h1 a (by simp) (by rw [h]; simp)
  | a :: a2 :: r, [b], _, _, _, h2, h => by
    exfalso
    simp [joinL] at h
    exact h2 b (by simp) (by rw [← h]; simp)
  | a :: a2 :: r, b :: b2 :: q, _, _, h1, h2, h => by
    simp only [joinL] at h
    obtain ⟨e1, e2⟩ := free_head (h1 a (by simp)) (h2 b (by simp)) h
    rw [e1, join_inj (xs := a2 :: r) (ys := b2 :: q) (by simp) (by simp) (fun p hp => h1 p (List.mem_cons_of_mem _ hp)) (fun p hp => h2 p (List.mem_cons_of_mem _ hp)) e2]
theorem L_join (c : Nat) : ∀ (xs : List Str), L (Str.join ⟨#[c]⟩ xs) = joinL c (xs.map L)
  | [] => rfl
  | [x] => rfl
  | x :: y :: r => by
    have ih := L_join c (y :: r)
    show L (x ++ ⟨#[c]⟩ ++ Str.join ⟨#[c]⟩ (y :: r)) = _
    rw [L_append, L_append, ih]
    show L x ++ [c] ++ joinL c (L y :: r.map L) = L x ++ c :: joinL c (L y :: r.map L)
    simp
theorem split_one (x : Str) (c : Nat) : (Txt.split x ⟨#[c]⟩).map L = splitL c (L x) := by
  have h1 := congrArg L (StrLaws.join_split x ⟨#[c]⟩)
  rw [L_join] at h1
  have hne : Txt.split x ⟨#[c]⟩ ≠ [] := fun z => by
    have := PyProof.Rows.split_pos x ⟨#[c]⟩
    rw [z] at this
    simp at this
  refine join_inj (c := c) (by simpa using hne) (splitL_ne c _) (fun p hp => ?_) (splitL_free c _) (by rw [h1, splitL_join])
  obtain ⟨q, hq, rfl⟩ := List.mem_map.mp hp
  exact StrLaws.split_free x c q hq
/-! whole numbers from 0 to 999 -/
def isNumB (l : Li) : Bool := !l.isEmpty && decide (l.length ≤ 3) && (!(l.head? == some 48) || l == [48]) && l.all fun c => decide (48 ≤ c) && decide (c ≤ 57)
def numT (n : Nat) : Li := (Nat.toDigits 10 n).map Char.toNat
theorem numT_all : ∀ n, n < 1000 → isNumB (numT n) = true ∧ digitsVal (numT n) = n := by decide +kernel
theorem L_num (n : Nat) : L (Str.ofString (toString (n : Int))) = numT n := by
  rw [L, PyProof.Rows.signs_ofString]
  show (Nat.repr n).toList.map Char.toNat = _
  rw [Nat.toList_repr]
  rfl
theorem isNum_digits {l : Li} (h : isNumB l = true) : AllDigits l ∧ l ≠ [] ∧ l.length ≤ 3 ∧ (l.head? = some 48 → l = [48]) := by
  unfold isNumB at h
  simp only [Bool.and_eq_true, List.all_eq_true, decide_eq_true_eq, Bool.or_eq_true, Bool.not_eq_true', beq_iff_eq, beq_eq_false_iff_ne] at h
  obtain ⟨⟨⟨h1, h2⟩, h3⟩, h4⟩ := h
  refine ⟨fun c hc => h4 c hc, fun z => by simp [z] at h1, h2, fun z => ?_⟩
  rcases h3 with h3 | h3
  · exact absurd z h3
  · exact h3
theorem isNum_text {l : Li} (h : isNumB l = true) : numT (digitsVal l) = l := by
  obtain ⟨h1, h2, h3, h4⟩ := isNum_digits h
  cases l with
  | nil => exact absurd rfl h2
  | cons c r =>
    have hc := h1.head
    by_cases hz : c = 48
    · subst hz
      rw [h4 rfl]
      decide
    · have e := toDigits_digitsVal r.length (c :: r) rfl h1 (.inr ⟨c, r, rfl, by omega⟩)
      unfold numT
      rw [e, List.map_map]
      have : ∀ d ∈ c :: r, (Char.toNat ∘ Char.ofNat) d = d := fun d hd => by
        have := h1 d hd
        have all : ∀ d, d < 58 → (Char.ofNat d).toNat = d := by decide
        exact all d (by omega)
      rw [List.map_congr_left this, List.map_id']
theorem isNum_int {x : Str} (h : isNumB (L x) = true) : intText? x = some ((digitsVal (L x) : Nat) : Int) := by
  obtain ⟨h1, h2, h3, _⟩ := isNum_digits h
  exact intText_digits h1 h2 (by rw [← len_L]; omega)
theorem isNum_lt {l : Li} (h : isNumB l = true) : digitsVal l < 1000 := by
  obtain ⟨h1, h2, h3, _⟩ := isNum_digits h
  match l, h1, h2, h3 with
  | [a], h1, _, _ => have := h1 a (by simp); simp [digitsVal]; omega
  | [a, b], h1, _, _ => have := h1 a (by simp); have := h1 b (by simp); simp [digitsVal]; omega
  | [a, b, c], h1, _, _ => have := h1 a (by simp); have := h1 b (by simp); have := h1 c (by simp); simp [digitsVal]; omega
  | [], _, h2, _ => exact absurd rfl h2
  | _ :: _ :: _ :: _ :: _, _, _, h3 => simp at h3
/-! pieces and sheets as texts -/
structure Pc where
  i : Nat
  o : Nat
  b : Nat
  w : Nat
  deriving DecidableEq
def okP (p : Pc) : Bool := decide (p.i < p.o) && decide (p.o ≤ 999) && decide (p.b < 24) && decide (1 ≤ p.w) && decide (p.w ≤ 24)
def okS (ps : List Pc) : Bool := decide (ps.length ≤ 8) && ps.all okP
def quadL (l : Li) : Li × Li × Li × Li := ((cutL 45 l).1, (cutL 64 (cutL 45 l).2).1, (cutL 43 (cutL 64 (cutL 45 l).2).2).1, (cutL 43 (cutL 64 (cutL 45 l).2).2).2)
def pieceL (l : Li) : Option Pc := if isNumB (quadL l).1 && isNumB (quadL l).2.1 && isNumB (quadL l).2.2.1 && isNumB (quadL l).2.2.2 then
  some ⟨digitsVal (quadL l).1, digitsVal (quadL l).2.1, digitsVal (quadL l).2.2.1, digitsVal (quadL l).2.2.2⟩ else none
def piecesL : List Li → Option (List Pc)
  | [] => some []
  | l :: r => (pieceL l).bind fun p => (piecesL r).bind fun ps => some (p :: ps)
def noneL : Li := [110, 111, 110, 101]
def readL (l : Li) : Option (List Pc) := if l = noneL then some [] else (piecesL (splitL 32 l)).bind fun ps => if okS ps then some ps else none
def textP (p : Pc) : Li := numT p.i ++ 45 :: (numT p.o ++ 64 :: (numT p.b ++ 43 :: numT p.w))
def textL (ps : List Pc) : Li := if ps = [] then noneL else joinL 32 (ps.map textP)
theorem num_free {n c : Nat} (hn : n < 1000) (hc : c < 48 ∨ 57 < c) : c ∉ numT n := fun z => by
  have := (isNum_digits (numT_all n hn).1).1 c z
  omega
theorem okP_lt {p : Pc} (h : okP p = true) : p.i < 1000 ∧ p.o < 1000 ∧ p.b < 1000 ∧ p.w < 1000 := by
  unfold okP at h
  simp only [Bool.and_eq_true, decide_eq_true_eq] at h
  omega
theorem quad_text {p : Pc} (h : okP p = true) : quadL (textP p) = (numT p.i, numT p.o, numT p.b, numT p.w) := by
  obtain ⟨h1, h2, h3, h4⟩ := okP_lt h
  unfold quadL textP
  rw [cut_of (num_free h1 (by omega))]
  simp only
  rw [cut_of (num_free h2 (by omega))]
  simp only
  rw [cut_of (num_free h3 (by omega))]
theorem piece_text {p : Pc} (h : okP p = true) : pieceL (textP p) = some p := by
  obtain ⟨h1, h2, h3, h4⟩ := okP_lt h
  unfold pieceL
  rw [quad_text h]
  simp only [(numT_all _ h1).1, (numT_all _ h2).1, (numT_all _ h3).1, (numT_all _ h4).1, (numT_all _ h1).2, (numT_all _ h2).2, (numT_all _ h3).2, (numT_all _ h4).2]
  rfl
theorem text_blank {p : Pc} (h : okP p = true) : 32 ∉ textP p := by
  obtain ⟨h1, h2, h3, h4⟩ := okP_lt h
  have f1 := num_free h1 (c := 32) (by omega)
  have f2 := num_free h2 (c := 32) (by omega)
  have f3 := num_free h3 (c := 32) (by omega)
  have f4 := num_free h4 (c := 32) (by omega)
  unfold textP
  simp [f1, f2, f3, f4]
theorem pieces_text : ∀ {ps : List Pc}, (∀ p ∈ ps, okP p = true) → piecesL (ps.map textP) = some ps
  | [], _ => rfl
  | p :: ps, h => by
    simp only [List.map_cons, piecesL, piece_text (h p List.mem_cons_self), Option.bind_some, pieces_text fun q hq => h q (List.mem_cons_of_mem _ hq)]
theorem okS_all {ps : List Pc} (h : okS ps = true) : ps.length ≤ 8 ∧ ∀ p ∈ ps, okP p = true := by
  unfold okS at h
  simp only [Bool.and_eq_true, decide_eq_true_eq, List.all_eq_true] at h
  exact h
theorem split_text {ps : List Pc} (hne : ps ≠ []) (h : ∀ p ∈ ps, okP p = true) : splitL 32 (joinL 32 (ps.map textP)) = ps.map textP :=
  join_inj (c := 32) (splitL_ne _ _) (by simpa using hne) (splitL_free _ _) (fun q hq => by obtain ⟨p, hp, rfl⟩ := List.mem_map.mp hq; exact text_blank (h p hp)) (splitL_join _ _)
theorem text_not_none {ps : List Pc} (hne : ps ≠ []) (h : ∀ p ∈ ps, okP p = true) : joinL 32 (ps.map textP) ≠ noneL := fun z => by
  have e := split_text hne h
  rw [z] at e
  have e2 : splitL 32 noneL = [noneL] := by decide
  rw [e2] at e
  cases ps with
  | nil => exact hne rfl
  | cons p r =>
    simp at e
    have := piece_text (h p List.mem_cons_self)
    rw [← e.1] at this
    have e3 : pieceL noneL = none := by decide
    rw [e3] at this
    cases this
theorem read_text {ps : List Pc} (h : okS ps = true) : readL (textL ps) = some ps := by
  obtain ⟨_, ha⟩ := okS_all h
  unfold readL textL
  by_cases hn : ps = []
  · subst hn; rfl
  · rw [if_neg hn, if_neg (text_not_none hn ha), split_text hn ha, pieces_text ha]
    simp [h]
theorem piece_back {l : Li} {p : Pc} (h : pieceL l = some p) : textP p = l := by
  unfold pieceL at h
  split at h
  · rename_i hq
    simp only [Bool.and_eq_true] at hq
    obtain ⟨⟨⟨q1, q2⟩, q3⟩, q4⟩ := hq
    cases h
    unfold textP
    simp only [isNum_text q1, isNum_text q2, isNum_text q3, isNum_text q4]
    have n4 := (isNum_digits q4).2.1
    have n3 := (isNum_digits q3).2.1
    have n2 := (isNum_digits q2).2.1
    unfold quadL at n2 n3 n4 ⊢
    simp only at n2 n3 n4 ⊢
    have e3 := cut_back n4
    rw [← e3]
    have ne2 : (cutL 64 (cutL 45 l).2).2 ≠ [] := fun z => by rw [z] at n3; exact n3 (by decide)
    have e2 := cut_back ne2
    rw [← e2]
    have ne1 : (cutL 45 l).2 ≠ [] := fun z => by rw [z] at n2; exact n2 (by decide)
    exact (cut_back ne1).symm
  · cases h
theorem pieces_back : ∀ {ls : List Li} {ps : List Pc}, piecesL ls = some ps → ps.map textP = ls
  | [], ps, h => by cases h; rfl
  | l :: r, ps, h => by
    unfold piecesL at h
    cases h1 : pieceL l with
    | none => rw [h1] at h; cases h
    | some p =>
      rw [h1] at h
      cases h2 : piecesL r with
      | none => rw [h2] at h; cases h
      | some qs =>
        rw [h2] at h
        cases h
        simp [piece_back h1, pieces_back h2]
theorem read_back {l : Li} {ps : List Pc} (h : readL l = some ps) : okS ps = true ∧ textL ps = l := by
  unfold readL at h
  split at h
  · rename_i e
    cases h
    exact ⟨rfl, by rw [e]; rfl⟩
  · cases h1 : piecesL (splitL 32 l) with
    | none => rw [h1] at h; cases h
    | some qs =>
      rw [h1] at h
      simp only [Option.bind_some] at h
      split at h
      · rename_i hk
        cases h
        refine ⟨hk, ?_⟩
        have e := pieces_back h1
        have hne : ps ≠ [] := fun z => by
          rw [z] at e
          exact splitL_ne 32 l e.symm
        unfold textL
        rw [if_neg hne, e, splitL_join]
      · cases h
end DL

set_option Elab.async false
set_option linter.all false
set_option maxRecDepth 100000
set_option maxHeartbeats 1000000
namespace DL.K02
open PySem DL PySem.NumText
noncomputable def b__law_mix : MS := (sRet (eOp oMod (eOp oMod (eOp oMul (eVar 0) (eC (.int 48271))) (eVar 1)) (eVar 2)))
noncomputable def m__law_mix : MF := fnM 3 3 b__law_mix
noncomputable def b__law_piece : MS := (sSeq (sAsg (eCall m__law_mix (aCons (eVar 0) (aCons (eC (.int 9973)) (aCons (eVar 1) aNil)))) (gN 2))
    (sSeq (sAsg (eOp oAdd (eOp oAdd (eVar 2) (eC (.int 1))) (eCall m__law_mix (aCons (eVar 0) (aCons (eC (.int 9967)) (aCons (eOp oSub (eVar 1) (eVar 2)) aNil))))) (gN 3))
    (sSeq (sAsg (eOp oAdd (eC (.int 1)) (eCall m__law_mix (aCons (eVar 0) (aCons (eC (.int 9949)) (aCons (eC (.int 24)) aNil))))) (gN 4))
    (sSeq (sIf (tV (eOp oEq (eOp oMod (eVar 0) (eC (.int 4))) (eC (.int 0)))) (sAsg (eC (.int 24)) (gN 4)) sNil)
    (sRet (eTup (aCons (eVar 2) (aCons (eVar 3) (aCons (eCall m__law_mix (aCons (eVar 0) (aCons (eC (.int 9941)) (aCons (eC (.int 24)) aNil)))) (aCons (eVar 4) aNil))))))))))
noncomputable def m__law_piece : MF := fnM 2 5 b__law_piece
noncomputable def b__law_sheet : MS := (sRet (eCall fTuple (aCons (eComp 1 [1, 0] (iRange (eCall m__law_mix (aCons (eVar 0) (aCons (eC (.int 9931)) (aCons (eOp oAdd (eVar 2) (eC (.int 1))) aNil))))) (gN 0) tT (eCall m__law_piece (aCons (eOp oAdd (eVar 2) (eOp oMul (eC (.int 11)) (eVar 0))) (aCons (eVar 1) aNil)))) aNil)))
noncomputable def m__law_sheet : MF := fnM 3 3 b__law_sheet
noncomputable def b__law_text_1 : MS := (sApp 6 1 (eOp oAdd (eOp oAdd (eOp oAdd (eOp oAdd (eOp oAdd (eOp oAdd (eCall fStr (aCons (eVar 2) aNil)) (eC (.str "-"))) (eCall fStr (aCons (eVar 3) aNil))) (eC (.str "@"))) (eCall fStr (aCons (eVar 4) aNil))) (eC (.str "+"))) (eCall fStr (aCons (eVar 5) aNil))))
noncomputable def b__law_text : MS := (sSeq (sOwn 6 1 (eLst aNil))
    (sSeq (sFor (iSeq (eVar 0)) (gT (gsCons (gN 2) (gsCons (gN 3) (gsCons (gN 4) (gsCons (gN 5) gsNil)))))
    b__law_text_1)
    (sFrz 6 [1] (sSeq (sIf (tV (eVar 1)) (sRet (eOp oJoin (eC (.str " ")) (eVar 1))) sNil)
    (sRet (eC (.str "none")))))))
noncomputable def m__law_text : MF := fnM 1 12 b__law_text
noncomputable def b__law_spoilt : MS := (sSeq (sAsg (eOp oMod (eOp oFdiv (eVar 1) (eC (.int 4))) (eOp oAdd (eCall fLen (aCons (eVar 0) aNil)) (eC (.int 1)))) (gN 2))
    (sSeq (sAsg (eOp oIx (eC (.str "019-@+ ,xn")) (eOp oMod (eOp oFdiv (eVar 1) (eC (.int 512))) (eC (.int 10)))) (gN 3))
    (sSeq (sIf (tV (eOp oEq (eOp oMod (eVar 1) (eC (.int 4))) (eC (.int 0)))) (sRet (eOp oAdd (eSl (eVar 0) pNo (pAt (eVar 2))) (eSl (eVar 0) (pAt (eOp oAdd (eVar 2) (eC (.int 1)))) pNo))) sNil)
    (sSeq (sIf (tV (eOp oEq (eOp oMod (eVar 1) (eC (.int 4))) (eC (.int 1)))) (sRet (eOp oAdd (eOp oAdd (eSl (eVar 0) pNo (pAt (eVar 2))) (eSl (eVar 0) (pAt (eVar 2)) (pAt (eOp oAdd (eVar 2) (eC (.int 1)))))) (eSl (eVar 0) (pAt (eVar 2)) pNo))) sNil)
    (sRet (eOp oAdd (eOp oAdd (eSl (eVar 0) pNo (pAt (eVar 2))) (eVar 3)) (eSl (eVar 0) (pAt (eOp oSub (eOp oAdd (eVar 2) (eOp oMod (eVar 1) (eC (.int 4)))) (eC (.int 2)))) pNo)))))))
noncomputable def m__law_spoilt : MF := fnM 2 4 b__law_spoilt
noncomputable def b_is_tuple_of : MS := (sRet (eAnd (eCall (fIs .tuple) (aCons (eVar 1) aNil)) (eOp oEq (eCall fLen (aCons (eVar 1) aNil)) (eVar 0))))
noncomputable def m_is_tuple_of : MF := fnM 2 2 b_is_tuple_of
noncomputable def b_is_ring : MS := (sRet (eChain3 oLe oLt oLe (eC (.int 0)) (eVar 0) (eVar 1) (eC (.int 999))))
noncomputable def m_is_ring : MF := fnM 2 2 b_is_ring
noncomputable def b_is_arc : MS := (sRet (eAnd (eChain2 oLe oLt (eC (.int 0)) (eVar 0) (eC (.int 24))) (eChain2 oLe oLe (eC (.int 1)) (eVar 1) (eC (.int 24)))))
noncomputable def m_is_arc : MF := fnM 2 2 b_is_arc
noncomputable def b_is_whole : MS := (sRet (eAnd (eCall (fIs .int) (aCons (eVar 0) aNil)) (eNot (eCall (fIs .bool) (aCons (eVar 0) aNil)))))
noncomputable def m_is_whole : MF := fnM 1 1 b_is_whole
noncomputable def b_is_piece : MS := (sSeq (sIf (tNot (tV (eCall m_is_tuple_of (aCons (eC (.int 4)) (aCons (eVar 0) aNil))))) (sRet (eC (.bl false))) sNil)
    (sSeq (sIf (tNot (tV (eCall fAll (aCons (eComp 1 [] (iSeq (eVar 0)) (gN 0) tT (eCall m_is_whole (aCons (eVar 0) aNil))) aNil)))) (sRet (eC (.bl false))) sNil)
    (sRet (eAnd (eCall m_is_ring (aCons (eOp oIx (eVar 0) (eC (.int 0))) (aCons (eOp oIx (eVar 0) (eC (.int 1))) aNil))) (eCall m_is_arc (aCons (eOp oIx (eVar 0) (eC (.int 2))) (aCons (eOp oIx (eVar 0) (eC (.int 3))) aNil)))))))
noncomputable def m_is_piece : MF := fnM 1 1 b_is_piece
noncomputable def b_is_sheet : MS := (sSeq (sIf (tOr (tNot (tV (eCall (fIs .tuple) (aCons (eVar 0) aNil)))) (tV (eOp oGt (eCall fLen (aCons (eVar 0) aNil)) (eC (.int 8))))) (sRet (eC (.bl false))) sNil)
    (sRet (eCall fAll (aCons (eComp 1 [] (iSeq (eVar 0)) (gN 0) tT (eCall m_is_piece (aCons (eVar 0) aNil))) aNil))))
noncomputable def m_is_sheet : MF := fnM 1 1 b_is_sheet
noncomputable def b_is_number : MS := (sSeq (sIf (tOr (tV (eOp oEq (eVar 0) (eC (.str "")))) (tV (eOp oGt (eCall fLen (aCons (eVar 0) aNil)) (eCall fLen (aCons (eCall fStr (aCons (eC (.int 999)) aNil)) aNil))))) (sRet (eC (.bl false))) sNil)
    (sSeq (sIf (tAnd (tV (eOp oEq (eOp oIx (eVar 0) (eC (.int 0))) (eC (.str "0")))) (tV (eOp oNe (eVar 0) (eC (.str "0"))))) (sRet (eC (.bl false))) sNil)
    (sRet (eCall fAll (aCons (eComp 1 [] (iStr (eVar 0)) (gN 0) tT (eOp oIn (eVar 0) (eC (.str "0123456789")))) aNil)))))
noncomputable def m_is_number : MF := fnM 1 1 b_is_number
noncomputable def b_read_number : MS := (sSeq (sIf (tNot (tV (eCall m_is_number (aCons (eVar 0) aNil)))) sRaise sNil)
    (sRet (eCall fInt (aCons (eVar 0) aNil))))
noncomputable def m_read_number : MX := fnX 1 1 b_read_number
noncomputable def b_parts_of_piece_1 : MS := (sSeq (sAsg (eOp oPart (eVar 2) (eVar 3)) (gN 4))
    (sSeq (sApp 5 1 (eOp oIx (eVar 4) (eC (.int 0))))
    (sAsg (eOp oIx (eVar 4) (eC (.int 2))) (gN 2))))
noncomputable def b_parts_of_piece : MS := (sSeq (sOwn 5 1 (eLst aNil))
    (sSeq (sAsg (eVar 0) (gN 2))
    (sSeq (sFor (iC (List.map D.str ["-", "@", "+"])) (gN 3)
    b_parts_of_piece_1)
    (sSeq (sApp 5 1 (eVar 2))
    (sFrz 5 [1] (sRet (eVar 1)))))))
noncomputable def m_parts_of_piece : MF := fnM 1 10 b_parts_of_piece
noncomputable def b_read_piece : MS := (sRetX (xTy fTuple (eCompX (pick 1 []) (iSeq (eCall m_parts_of_piece (aCons (eVar 0) aNil))) (gN 0) tT (xCall m_read_number (aCons (eVar 0) aNil)))))
noncomputable def m_read_piece : MX := fnX 1 1 b_read_piece
noncomputable def b_read : MS := (sSeq (sIf (tV (eOp oEq (eVar 0) (eC (.str "none")))) (sRet (eTup aNil)) sNil)
    (sSeq (sAsgX (xTy fTuple (eCompX (pick 1 []) (iSeq (eOp oSplit (eVar 0) (eC (.str " ")))) (gN 0) tT (xCall m_read_piece (aCons (eVar 0) aNil)))) (gN 1))
    (sSeq (sIf (tNot (tV (eCall m_is_sheet (aCons (eVar 1) aNil)))) sRaise sNil)
    (sRet (eVar 1)))))
noncomputable def m_read : MX := fnX 1 2 b_read
noncomputable def b__law_read : MS := (sSeq (sAsg (eC (.str "other")) (gN 1))
    (sSeq (sTry 3 1 2 (xCall m_read (aCons (eVar 0) aNil)) .non)
    (sRet (eVar 1))))
noncomputable def m__law_read : MF := fnM 1 3 b__law_read
noncomputable def b_written_piece : MS := (sSeq (sAsg (eOp oIx (eVar 0) (eC (.int 0))) (gN 1))
    (sSeq (sAsg (eOp oIx (eVar 0) (eC (.int 1))) (gN 2))
    (sSeq (sAsg (eOp oIx (eVar 0) (eC (.int 2))) (gN 3))
    (sSeq (sAsg (eOp oIx (eVar 0) (eC (.int 3))) (gN 4))
    (sRet (eFstr (aCons (eUn uFmt (eVar 1)) (aCons (eC (.str "-")) (aCons (eUn uFmt (eVar 2)) (aCons (eC (.str "@")) (aCons (eUn uFmt (eVar 3)) (aCons (eC (.str "+")) (aCons (eUn uFmt (eVar 4)) aNil)))))))))))))
noncomputable def m_written_piece : MF := fnM 1 5 b_written_piece
noncomputable def b_written : MS := (sSeq (sIf (tV (eOp oEq (eCall fLen (aCons (eVar 0) aNil)) (eC (.int 0)))) (sRet (eC (.str "none"))) sNil)
    (sRet (eOp oJoin (eC (.str " ")) (eComp 1 [] (iSeq (eVar 0)) (gN 0) tT (eCall m_written_piece (aCons (eVar 0) aNil))))))
noncomputable def m_written : MF := fnM 1 1 b_written
noncomputable def b_law_1 : MS := (sSeq (sAsg (eCall m__law_sheet (aCons (eVar 1) (aCons (eOp oIx (eLst (aCons (eC (.int 9)) (aCons (eC (.int 999)) aNil))) (eOp oMod (eVar 1) (eC (.int 2)))) (aCons (eC (.int 8)) aNil)))) (gN 2))
    (sSeq (sAsg (eCall m__law_text (aCons (eVar 2) aNil)) (gN 3))
    (sSeq (sIf (tOr (tV (eOp oNe (eCall m_written (aCons (eVar 2) aNil)) (eVar 3))) (tV (eOp oNe (eCall (okOf m_read) (aCons (eVar 3) aNil)) (eVar 2)))) (sRet (eC (.bl false))) sNil)
    (sSeq (sAsg (eCall m__law_spoilt (aCons (eVar 3) (aCons (eOp oFdiv (eVar 1) (eC (.int 3))) aNil))) (gN 4))
    (sSeq (sAsg (eCall m__law_read (aCons (eVar 4) aNil)) (gN 5))
    (sIf (tAnd (tV (eUn uIsNotN (eVar 5))) (tOr (tNot (tV (eCall m_is_sheet (aCons (eVar 5) aNil)))) (tV (eOp oNe (eCall m__law_text (aCons (eVar 5) aNil)) (eVar 4))))) (sRet (eC (.bl false))) sNil))))))
noncomputable def b_law_2 : MS := (sIf (tV (eUn uIsNotN (eCall m__law_read (aCons (eVar 4) aNil)))) (sRet (eC (.bl false))) sNil)
noncomputable def b_law : MS := (sSeq (sFor (iSeq (eUn (uCut 8) (eVar 0))) (gN 1)
    b_law_1)
    (sSeq (sAsg (eLst (aCons (eC (.str "")) (aCons (eC (.str " ")) (aCons (eC (.str "none ")) (aCons (eC (.str "none none")) (aCons (eC (.str "0-1@0")) (aCons (eC (.str "0-1@0+24 ")) (aCons (eC (.str " 0-1@0+24")) (aCons (eC (.str "0-1@00+24")) (aCons (eC (.str "1-1@0+24")) (aCons (eC (.str "0-1@24+1")) aNil))))))))))) (gN 6))
    (sSeq (sFor (iSeq (eOp oAdd (eVar 6) (eLst (aCons (eC (.str "0-1+0@24")) (aCons (eC (.str "0-1@0+24  0-1@0+24")) (aCons (eC (.str "0-1@0+24 none")) (aCons (eC (.str "-1-1@0+24")) aNil))))))) (gN 4)
    b_law_2)
    (sRet (eAnd (eOp oEq (eCall (okOf m_read) (aCons (eC (.str "none")) aNil)) (eTup aNil)) (eOp oEq (eCall (okOf m_read) (aCons (eC (.str "0-999@23+24")) aNil)) (eTup (aCons (eTup (aCons (eC (.int 0)) (aCons (eC (.int 999)) (aCons (eC (.int 23)) (aCons (eC (.int 24)) aNil))))) aNil))))))))
noncomputable def m_law : MF := fnM 1 7 b_law

def mixZ (c p m : Int) : Int := c * 48271 % p % m
theorem r_mix {c p m : Int} (hp : 0 < p) (hm : 0 < m) : m__law_mix [.int c, .int p, .int m] = some (.int (mixZ c p m)) := by
  simp [m__law_mix, fnM, b__law_mix, sRet, eOp, eVar, slot, eC, oMod, oI, oMul, small, hp, hm, mixZ]
theorem mix_range {c p m : Int} (hm : 0 < m) : 0 ≤ mixZ c p m ∧ mixZ c p m < m := ⟨Int.emod_nonneg _ (by omega), Int.emod_lt_of_pos _ hm⟩
theorem allB_map (p : D → Bool) : ∀ ds : List D, allB (ds.map fun d => .bl (p d)) = some (ds.all p)
  | [] => rfl
  | d :: ds => by simp [allB, allB_map p ds]
def isInt : D → Bool
  | .int _ => true
  | _ => false
theorem isInt_inv {d : D} (h : isInt d = true) : ∃ i, d = .int i := by
  cases d with
  | int i => exact ⟨i, rfl⟩
  | _ => cases h
theorem r_is_whole (d : D) : m_is_whole [d] = some (.bl (isInt d)) := by
  cases d <;> simp [m_is_whole, fnM, b_is_whole, sRet, eAnd, eCall, fIs, isI, aCons, aNil, eVar, slot, eNot, isInt]
def isTup (n : Nat) : D → Bool
  | .tup ds => ds.length == n
  | _ => false
theorem r_is_tuple_of (n : Nat) (d : D) : m_is_tuple_of [.int n, d] = some (.bl (isTup n d)) := by
  cases d <;> simp [m_is_tuple_of, fnM, b_is_tuple_of, sRet, eAnd, eCall, fIs, isI, aCons, aNil, eVar, slot, isTup, eOp, fLen, oEq, depD, eqD]
  rw [Bool.eq_iff_iff]; simp; omega
theorem r_is_ring (i o : Int) : m_is_ring [.int i, .int o] = some (.bl (decide (0 ≤ i ∧ i < o ∧ o ≤ 999))) := by
  by_cases h1 : 0 ≤ i <;> by_cases h2 : i < o <;> simp [m_is_ring, fnM, b_is_ring, sRet, eChain3, eC, eVar, slot, oLe, oLt, oI, h1, h2]
theorem r_is_arc (b w : Int) : m_is_arc [.int b, .int w] = some (.bl (decide (0 ≤ b ∧ b < 24 ∧ 1 ≤ w ∧ w ≤ 24))) := by
  by_cases h1 : 0 ≤ b <;> by_cases h2 : b < 24 <;> by_cases h3 : 1 ≤ w <;> simp [m_is_arc, fnM, b_is_arc, sRet, eAnd, eChain2, eC, eVar, slot, oLe, oLt, oI, h1, h2, h3]
def isPieceB : D → Bool
  | .tup [.int i, .int o, .int b, .int w] => decide (0 ≤ i ∧ i < o ∧ o ≤ 999) && decide (0 ≤ b ∧ b < 24 ∧ 1 ≤ w ∧ w ≤ 24)
  | _ => false


/-- all([f(x) for x in t]) -/
theorem r_all1 {f : MF} {ds : List D} {δ : Ev} (p : D → Bool) (hv : eVar 0 δ = some (.tup ds)) (hl : ds.length ≤ 16777216) (h : ∀ x ∈ ds, f [x] = some (.bl (p x))) :
    eCall fAll (aCons (eComp 1 [] (iSeq (eVar 0)) (gN 0) tT (eCall f (aCons (eVar 0) aNil))) aNil) δ = some (.bl (ds.all p)) := by
  have hc : eComp 1 [] (iSeq (eVar 0)) (gN 0) tT (eCall f (aCons (eVar 0) aNil)) δ = some (.lst (ds.filterMap fun x => some (.bl (p x)))) :=
    comp_ev (xs := ds) (fun x => some (.bl (p x))) (by simp [iSeq, hv]) hl fun x hx => ⟨_, rfl, .inl ⟨rfl, .bl (p x), (call1_ev (x := x) rfl).trans (h x hx), rfl⟩⟩
  rw [call1_ev hc]
  rw [List.filterMap_eq_map']
  simp [fAll, allB_map]
def Short : D → Prop
  | .tup ds => ds.length ≤ 16777216
  | _ => True
theorem r_is_piece (d : D) (hl : Short d) : m_is_piece [d] = some (.bl (isPieceB d)) := by
  have h0 : m_is_tuple_of [.int 4, d] = some (.bl (isTup 4 d)) := r_is_tuple_of 4 d
  have t0 : tNot (tV (eCall m_is_tuple_of (aCons (eC (.int 4)) (aCons (eVar 0) aNil)))) [some d] = some (!isTup 4 d) := tNot_ev (tV_ev ((call2_ev rfl rfl).trans h0) rfl)
  refine fn_ev rfl ?_
  show b_is_piece [some d] = _
  unfold b_is_piece
  cases ht : isTup 4 d with
  | false =>
    rw [ht] at t0
    rw [seq_rt ((if_T t0).trans (ret_ev rfl))]
    have : isPieceB d = false := by
      unfold isPieceB
      split
      · simp [isTup] at ht
      · rfl
    rw [this]
  | true =>
    rw [ht] at t0
    rw [seq_nx ((if_F t0).trans rfl)]
    cases d with
    | tup ds =>
      have ha := r_all1 (f := m_is_whole) (ds := ds) (δ := [some (.tup ds)]) isInt rfl hl fun x _ => r_is_whole x
      have t1 := tNot_ev (tV_ev ha rfl)
      simp [isTup] at ht
      match ds, ht with
      | [d0, d1, d2, d3], _ =>
        cases hb : [d0, d1, d2, d3].all isInt with
        | false =>
          rw [hb] at t1
          rw [seq_rt ((if_T t1).trans (ret_ev rfl))]
          have : isPieceB (.tup [d0, d1, d2, d3]) = false := by
            unfold isPieceB
            split
            · rename_i heq
              cases heq
              simp [isInt] at hb
            · rfl
          rw [this]
        | true =>
          rw [hb] at t1
          rw [seq_nx ((if_F t1).trans rfl)]
          simp only [List.all_cons, List.all_nil, Bool.and_eq_true, Bool.and_true] at hb
          obtain ⟨h1, h2, h3, h4⟩ := hb
          obtain ⟨i, rfl⟩ := isInt_inv h1
          obtain ⟨o, rfl⟩ := isInt_inv h2
          obtain ⟨b, rfl⟩ := isInt_inv h3
          obtain ⟨w, rfl⟩ := isInt_inv h4
          refine ret_ev ?_
          unfold eAnd
          rw [call2_ev (x := .int i) (y := .int o) rfl rfl, r_is_ring, call2_ev (x := .int b) (y := .int w) rfl rfl, r_is_arc]
          by_cases hr : (0 ≤ i ∧ i < o ∧ o ≤ 999) <;> simp [isPieceB, hr]
    | _ => cases ht
def isSheetB : D → Bool
  | .tup ds => decide (ds.length ≤ 8) && ds.all isPieceB
  | _ => false
theorem r_is_sheet (d : D) (hl : Short d) (hs : ∀ ds, d = .tup ds → ∀ x ∈ ds, Short x) : m_is_sheet [d] = some (.bl (isSheetB d)) := by
  refine fn_ev rfl ?_
  show b_is_sheet [some d] = _
  unfold b_is_sheet
  cases d with
  | tup ds =>
    have t0 : tOr (tNot (tV (eCall (fIs .tuple) (aCons (eVar 0) aNil)))) (tV (eOp oGt (eCall fLen (aCons (eVar 0) aNil)) (eC (.int 8)))) [some (.tup ds)] = some (decide (8 < ds.length)) := by
      refine (tOr_ev (x := false) (y := decide (8 < ds.length)) rfl ?_).trans (by simp)
      refine tV_ev (d := .bl (decide ((8 : Int) < ds.length))) ((op_ev (x := .int ds.length) (y := .int 8) rfl rfl).trans rfl) ?_
      simp [truth]
      omega
    have ha := r_all1 (f := m_is_piece) (ds := ds) (δ := [some (.tup ds)]) isPieceB rfl hl fun x hx => r_is_piece x (hs ds rfl x hx)
    by_cases h8 : ds.length ≤ 8
    · rw [decide_eq_false (by omega)] at t0
      rw [seq_nx ((if_F t0).trans rfl), ret_ev ha]
      simp [isSheetB, h8]
    · rw [decide_eq_true (by omega)] at t0
      rw [seq_rt ((if_T t0).trans (ret_ev rfl))]
      simp [isSheetB, h8]
  | _ =>
    rw [seq_rt ((if_T (tOr_T rfl)).trans (ret_ev rfl))]
    rfl
/-! fractions -/

/-! the drawn sheets -/
def pD (p : Pc) : D := .tup [.int p.i, .int p.o, .int p.b, .int p.w]
def pcOf (c M : Int) : Pc := ⟨(mixZ c 9973 M).toNat, (mixZ c 9973 M + 1 + mixZ c 9967 (M - mixZ c 9973 M)).toNat, (mixZ c 9941 24).toNat, (if c % 4 = 0 then 24 else 1 + mixZ c 9949 24).toNat⟩
theorem pc_ok (c M : Int) (h1 : 1 ≤ M) (h9 : M ≤ 999) : okP (pcOf c M) = true := by
  have q1 := mix_range (c := c) (p := 9973) (m := M) (by omega)
  have q2 := mix_range (c := c) (p := 9967) (m := M - mixZ c 9973 M) (by omega)
  have q3 := mix_range (c := c) (p := 9941) (m := 24) (by decide)
  have q4 := mix_range (c := c) (p := 9949) (m := 24) (by decide)
  unfold okP pcOf
  simp only [Bool.and_eq_true, decide_eq_true_eq]
  refine ⟨⟨⟨⟨by omega, by omega⟩, by omega⟩, ?_⟩, ?_⟩ <;> (split <;> omega)
theorem pc_D (c M : Int) (h1 : 1 ≤ M) : pD (pcOf c M) = .tup [.int (mixZ c 9973 M), .int (mixZ c 9973 M + 1 + mixZ c 9967 (M - mixZ c 9973 M)), .int (mixZ c 9941 24), .int (if c % 4 = 0 then 24 else 1 + mixZ c 9949 24)] := by
  have q1 := mix_range (c := c) (p := 9973) (m := M) (by omega)
  have q2 := mix_range (c := c) (p := 9967) (m := M - mixZ c 9973 M) (by omega)
  have q3 := mix_range (c := c) (p := 9941) (m := 24) (by decide)
  have q4 := mix_range (c := c) (p := 9949) (m := 24) (by decide)
  unfold pD pcOf
  simp only
  rw [Int.toNat_of_nonneg q1.1, Int.toNat_of_nonneg q3.1, Int.toNat_of_nonneg (by omega), Int.toNat_of_nonneg (by split <;> omega)]
theorem r_piece (c M : Int) (h1 : 1 ≤ M) : m__law_piece [.int c, .int M] = some (pD (pcOf c M)) := by
  have q1 := mix_range (c := c) (p := 9973) (m := M) (by omega)
  have e1 : m__law_mix [.int c, .int 9973, .int M] = some (.int (mixZ c 9973 M)) := r_mix (by decide) (by omega)
  have e2 : m__law_mix [.int c, .int 9967, .int (M - mixZ c 9973 M)] = some (.int (mixZ c 9967 (M - mixZ c 9973 M))) := r_mix (by decide) (by omega)
  have e3 : m__law_mix [.int c, .int 9941, .int 24] = some (.int (mixZ c 9941 24)) := r_mix (by decide) (by decide)
  have e4 : m__law_mix [.int c, .int 9949, .int 24] = some (.int (mixZ c 9949 24)) := r_mix (by decide) (by decide)
  rw [pc_D c M h1]
  by_cases h : c % 4 = 0
  · simp [m__law_piece, fnM, b__law_piece, sSeq, sAsg, sIf, sRet, eOp, eVar, slot, eC, eCall, aCons, aNil, gN, oAdd, oSub, oI, oMod, oEq, depD, eqD, tV, truth, sNil, eTup, e1, e2, e3, e4, h]
  · simp [m__law_piece, fnM, b__law_piece, sSeq, sAsg, sIf, sRet, eOp, eVar, slot, eC, eCall, aCons, aNil, gN, oAdd, oSub, oI, oMod, oEq, depD, eqD, tV, truth, sNil, eTup, e1, e2, e3, e4, h]
theorem range_mem {n : Nat} {x : D} (h : x ∈ rangeD n) : ∃ k : Nat, k < n ∧ x = .int k := by
  unfold rangeD at h
  obtain ⟨k, h1, h2⟩ := List.mem_map.mp h
  exact ⟨k, List.mem_range.mp h1, h2.symm⟩
def cells (c : Int) : List Pc := []
def pf (c M : Int) : D → D
  | .int k => pD (pcOf (c + 11 * k) M)
  | d => d
def shL (c M : Int) : List Pc := (List.range (mixZ c 9931 9).toNat).map fun (k : Nat) => pcOf (c + 11 * (k : Int)) M
theorem sh_ok (c M : Int) (h1 : 1 ≤ M) (h9 : M ≤ 999) : okS (shL c M) = true := by
  have q := mix_range (c := c) (p := 9931) (m := 9) (by decide)
  unfold okS shL
  simp only [Bool.and_eq_true, decide_eq_true_eq, List.all_eq_true, List.length_map, List.length_range]
  refine ⟨by omega, fun p hp => ?_⟩
  obtain ⟨k, _, rfl⟩ := List.mem_map.mp hp
  exact pc_ok _ _ h1 h9
theorem r_sheet (c M : Int) (h1 : 1 ≤ M) : m__law_sheet [.int c, .int M, .int 8] = some (.tup ((shL c M).map pD)) := by
  have hm := mix_range (c := c) (p := 9931) (m := 9) (by decide)
  have e1 : m__law_mix [.int c, .int 9931, .int 9] = some (.int (mixZ c 9931 9)) := r_mix (by decide) (by decide)
  have hi : iRange (eCall m__law_mix (aCons (eVar 0) (aCons (eC (.int 9931)) (aCons (eOp oAdd (eVar 2) (eC (.int 1))) aNil)))) [some (.int c), some (.int M), some (.int 8)] = some (rangeD (mixZ c 9931 9).toNat) := by
    unfold iRange
    rw [call3_ev (x := .int c) (y := .int 9931) (z := .int 9) rfl rfl rfl, e1]
    simp only [Option.bind_some]
    rw [if_pos ⟨by omega, by omega⟩]
  have hc := comp_ev (k := 1) (fv := [1, 0]) (g := gN 0) (c := tT) (e := eCall m__law_piece (aCons (eOp oAdd (eVar 2) (eOp oMul (eC (.int 11)) (eVar 0))) (aCons (eVar 1) aNil))) (fun x => some (pf c M x)) hi (by simp [rangeD]; omega) fun x hx => by
    obtain ⟨k, _, rfl⟩ := range_mem hx
    refine ⟨[some (.int k), some (.int M), some (.int c)], rfl, .inl ⟨rfl, pD (pcOf (c + 11 * k) M), ?_, rfl⟩⟩
    have em : oMul (.int 11) (.int k) = some (.int (11 * k)) := by simp [oMul, small]
    exact (call2_ev (x := .int (c + 11 * k)) (y := .int M) ((op_ev (x := .int c) (y := .int (11 * k)) rfl ((op_ev (x := .int 11) (y := .int k) rfl rfl).trans em)).trans rfl) rfl).trans (r_piece _ _ h1)
  refine fn_ev rfl (ret_ev ((call1_ev hc).trans ?_))
  rw [List.filterMap_eq_map']
  simp [fTuple, rangeD, shL, pf, Function.comp_def]
/-! texts -/
theorem one_S (c : Nat) : (⟨#[c]⟩ : Str) = S [c] := rfl
theorem lit_minus : ("-" : Str) = S [45] := by decide +kernel
theorem lit_at : ("@" : Str) = S [64] := by decide +kernel
theorem lit_plus : ("+" : Str) = S [43] := by decide +kernel
theorem lit_blank : (" " : Str) = S [32] := by decide +kernel
theorem lit_none : ("none" : Str) = S noneL := by decide +kernel
theorem num_S (n : Nat) : ((toString (n : Int) : String) : Str) = S (numT n) := by apply L_inj; rw [L_S]; exact L_num n
theorem num_len {n : Nat} (h : n < 1000) : (numT n).length ≤ 3 := (isNum_digits (numT_all n h).1).2.2.1
theorem log_ok {n : Nat} (h : n < 1000) : ((n : Int)).natAbs.log2 < 1920 := by
  rw [Int.natAbs_natCast]
  have : n.log2 ≤ n := Nat.log2_le_self n
  omega
theorem str_ev {n : Nat} (h : n < 1000) : fStr [.int n] = some (.str (S (numT n))) := by
  show (if _ then _ else _) = _
  rw [if_pos (log_ok h), num_S]
theorem fmt_ev {n : Nat} (h : n < 1000) : uFmt (.int n) = some (.str (S (numT n))) := by
  show (if _ then _ else _) = _
  rw [if_pos (log_ok h), num_S]
theorem cat_ev {a b : Li} (h : a.length + b.length ≤ 16777216) : oAdd (.str (S a)) (.str (S b)) = some (.str (S (a ++ b))) := by
  show (if _ then _ else _) = _
  rw [len_S, len_S, if_pos h, S_append]
end DL.K02

set_option Elab.async false
set_option linter.all false
set_option maxRecDepth 100000
set_option maxHeartbeats 1000000
namespace DL.K02
open PySem DL PySem.NumText
theorem textP_len {p : Pc} (h : okP p = true) : (textP p).length ≤ 15 := by
  obtain ⟨h1, h2, h3, h4⟩ := okP_lt h
  have := num_len h1
  have := num_len h2
  have := num_len h3
  have := num_len h4
  unfold textP
  simp
  omega
/-! the law's own writing -/
theorem word_ev {p : Pc} (h : okP p = true) {x0 x1 x6 x7 x8 x9 x10 x11 : Option D} :
    (eOp oAdd (eOp oAdd (eOp oAdd (eOp oAdd (eOp oAdd (eOp oAdd (eCall fStr (aCons (eVar 2) aNil)) (eC (.str "-"))) (eCall fStr (aCons (eVar 3) aNil))) (eC (.str "@"))) (eCall fStr (aCons (eVar 4) aNil))) (eC (.str "+"))) (eCall fStr (aCons (eVar 5) aNil)))
      [x0, x1, some (.int p.i), some (.int p.o), some (.int p.b), some (.int p.w), x6, x7, x8, x9, x10, x11] = some (.str (S (textP p))) := by
  obtain ⟨h1, h2, h3, h4⟩ := okP_lt h
  have n1 := num_len h1
  have n2 := num_len h2
  have n3 := num_len h3
  have n4 := num_len h4
  rw [op_ev (op_ev (op_ev (op_ev (op_ev (op_ev ((call1_ev rfl).trans (str_ev h1)) (y := .str (S [45])) (by rw [← lit_minus]; rfl) |>.trans (cat_ev (by simp; omega))) ((call1_ev rfl).trans (str_ev h2)) |>.trans (cat_ev (by simp; omega)))
    (y := .str (S [64])) (by rw [← lit_at]; rfl) |>.trans (cat_ev (by simp; omega))) ((call1_ev rfl).trans (str_ev h3)) |>.trans (cat_ev (by simp; omega))) (y := .str (S [43])) (by rw [← lit_plus]; rfl) |>.trans (cat_ev (by simp; omega))) ((call1_ev rfl).trans (str_ev h4)), cat_ev (by simp; omega)]
  unfold textP
  simp
def wordsD (ps : List Pc) : List D := ps.map fun p => .str (S (textP p))
theorem words_loop (sh : D) : ∀ (ps qs : List Pc) (x2 x3 x4 x5 : Option D), (∀ p ∈ ps, okP p = true) → qs.length + ps.length ≤ 8 → ∃ y2 y3 y4 y5,
    forM (gT (gsCons (gN 2) (gsCons (gN 3) (gsCons (gN 4) (gsCons (gN 5) gsNil))))) b__law_text_1 (ps.map pD) [some sh, none, x2, x3, x4, x5, none, some (.lst (wordsD qs)), none, none, none, none]
      = some (.nx [some sh, none, y2, y3, y4, y5, none, some (.lst (wordsD (qs ++ ps))), none, none, none, none])
  | [], qs, x2, x3, x4, x5, _, _ => ⟨x2, x3, x4, x5, by simp [forM]⟩
  | p :: ps, qs, x2, x3, x4, x5, h, hl => by
    obtain ⟨y2, y3, y4, y5, e⟩ := words_loop sh ps (qs ++ [p]) (some (.int p.i)) (some (.int p.o)) (some (.int p.b)) (some (.int p.w)) (fun q hq => h q (List.mem_cons_of_mem _ hq)) (by simp at hl ⊢; omega)
    refine ⟨y2, y3, y4, y5, ?_⟩
    have hg : gT (gsCons (gN 2) (gsCons (gN 3) (gsCons (gN 4) (gsCons (gN 5) gsNil)))) (pD p) [some sh, none, x2, x3, x4, x5, none, some (.lst (wordsD qs)), none, none, none, none] = some [some sh, none, some (.int p.i), some (.int p.o), some (.int p.b), some (.int p.w), none, some (.lst (wordsD qs)), none, none, none, none] := rfl
    have hb : b__law_text_1 [some sh, none, some (.int p.i), some (.int p.o), some (.int p.b), some (.int p.w), none, some (.lst (wordsD qs)), none, none, none, none] = some (.nx [some sh, none, some (.int p.i), some (.int p.o), some (.int p.b), some (.int p.w), none, some (.lst (wordsD (qs ++ [p]))), none, none, none, none]) := by
      unfold b__law_text_1 sApp
      rw [word_ev (h p List.mem_cons_self)]
      have hw : qs.length < 16777216 := by simp at hl; omega
      simp [ownAt, slot, hw, wordsD]
    rw [List.map_cons, forM, hg]
    simp only [Option.bind_some]
    rw [hb]
    simp only [Option.bind_some]
    rw [e]
    simp
theorem texts_words (ps : List Pc) : textsOf (wordsD ps) = some (ps.map fun p => S (textP p)) := by
  induction ps with
  | nil => rfl
  | cons p ps ih =>
    show (textsOf (wordsD ps)).bind _ = _
    rw [ih]
    rfl
theorem join_S (c : Nat) (ls : List Li) : Txt.join (S [c]) (ls.map S) = S (joinL c ls) := by
  apply L_inj
  show L (Builtin.Str.glued (S [c]) (ls.map S)) = _
  rw [StrLaws.glued_eq_join, ← one_S, L_join, L_S, List.map_map]
  congr 1
  have : (L ∘ S) = id := by funext l; exact L_S l
  rw [this, List.map_id]
theorem joinL_len (c : Nat) : ∀ ls : List Li, (joinL c ls).length ≤ (ls.map List.length).sum + ls.length
  | [] => by simp [joinL]
  | [a] => by simp [joinL]
  | a :: b :: r => by
    have := joinL_len c (b :: r)
    simp [joinL] at this ⊢
    omega
theorem sum_le {ps : List Pc} (h : ∀ p ∈ ps, okP p = true) : ((ps.map textP).map List.length).sum ≤ 15 * ps.length := by
  induction ps with
  | nil => simp
  | cons p ps ih =>
    have := textP_len (h p List.mem_cons_self)
    have := ih fun q hq => h q (List.mem_cons_of_mem _ hq)
    simp at this ⊢
    omega
theorem total_le (sep : Str) : ∀ (xs : List Str) (a : Nat), xs.foldl (fun acc x => acc + x.length + sep.length) a = a + (xs.map (·.length)).sum + xs.length * sep.length
  | [], a => by simp
  | x :: xs, a => by
    simp only [List.foldl_cons]
    rw [total_le sep xs]
    simp [Nat.add_mul]
    omega
theorem join_ok {ps : List Pc} (h : ∀ p ∈ ps, okP p = true) (hl : ps.length ≤ 8) : JoinOk (S [32]) (ps.map fun p => S (textP p)) = true := by
  unfold JoinOk
  rw [← Array.foldl_toList, List.toList_toArray, total_le]
  have e1 : ((ps.map fun p => S (textP p)).map (·.length)) = (ps.map textP).map List.length := by
    simp [Function.comp_def, len_S]
  have := sum_le h
  rw [e1]
  simp only [List.length_map, len_S, List.length_cons, List.length_nil]
  generalize ((ps.map textP).map List.length).sum = z at this ⊢
  have hz := sizeLine_eq
  simp [Builtin.Str.tooLong]
  omega
theorem textL_len {ps : List Pc} (h : okS ps = true) : (textL ps).length ≤ 200 := by
  obtain ⟨hl, ha⟩ := okS_all h
  unfold textL
  split
  · decide
  · have := joinL_len 32 (ps.map textP)
    have := sum_le ha
    simp at *
    omega
theorem join_words {ps : List Pc} (hk : okS ps = true) (hn : ps ≠ []) : oJoin (.str " ") (.lst (wordsD ps)) = some (.str (S (textL ps))) := by
  obtain ⟨hl, ha⟩ := okS_all hk
  have hz := textL_len hk
  have ht : textL ps = joinL 32 (ps.map textP) := by unfold textL; rw [if_neg hn]
  have hj : Txt.join (S [32]) (ps.map fun p => S (textP p)) = S (textL ps) := by
    rw [ht, ← join_S, List.map_map]
    rfl
  show (textsOf (wordsD ps)).bind _ = _
  rw [texts_words, lit_blank]
  simp only [Option.bind_some]
  rw [hj, if_pos ⟨join_ok ha hl, by rw [len_S]; omega⟩]
theorem r_text {ps : List Pc} (hk : okS ps = true) : m__law_text [.tup (ps.map pD)] = some (.str (S (textL ps))) := by
  obtain ⟨hl, ha⟩ := okS_all hk
  refine fn_ev rfl ?_
  show b__law_text [some (.tup (ps.map pD)), none, none, none, none, none, none, none, none, none, none, none] = _
  unfold b__law_text
  obtain ⟨y2, y3, y4, y5, e⟩ := words_loop (.tup (ps.map pD)) ps [] none none none none ha (by simpa using hl)
  refine (seq_nx (δ' := [some (.tup (ps.map pD)), none, none, none, none, none, none, some (.lst []), none, none, none, none]) rfl).trans ?_
  refine (seq_nx ((sfor_ev (xs := ps.map pD) rfl).trans e)).trans ?_
  show sSeq _ _ [some (.tup (ps.map pD)), some (.lst (wordsD ps)), y2, y3, y4, y5, none, none, none, none, none, none] = _
  cases hp : ps with
  | nil =>
    refine (seq_nx (if_F (b := sNil) rfl)).trans ?_
    refine ret_ev ?_
    show some (D.str "none") = _
    rw [lit_none]
    rfl
  | cons p qs =>
    rw [← hp]
    refine seq_rt ((if_T ?_).trans (ret_ev ((op_ev rfl rfl).trans (join_words hk (by simp [hp])))))
    refine tV_ev (d := .lst (wordsD ps)) rfl ?_
    simp [truth, wordsD, hp]
/-! written -/
theorem r_written_piece {p : Pc} (h : okP p = true) : m_written_piece [pD p] = some (.str (S (textP p))) := by
  obtain ⟨h1, h2, h3, h4⟩ := okP_lt h
  have n1 := num_len h1
  have n2 := num_len h2
  have n3 := num_len h3
  have n4 := num_len h4
  refine fn_ev rfl ?_
  show b_written_piece [some (pD p), none, none, none, none] = _
  unfold b_written_piece
  refine (seq_nx (asg_ev (d := .int p.i) rfl rfl)).trans ?_
  refine (seq_nx (asg_ev (d := .int p.o) rfl rfl)).trans ?_
  refine (seq_nx (asg_ev (d := .int p.b) rfl rfl)).trans ?_
  refine (seq_nx (asg_ev (d := .int p.w) rfl rfl)).trans ?_
  refine ret_ev ?_
  have ha : (aCons (eUn uFmt (eVar 1)) (aCons (eC (.str "-")) (aCons (eUn uFmt (eVar 2)) (aCons (eC (.str "@")) (aCons (eUn uFmt (eVar 3)) (aCons (eC (.str "+")) (aCons (eUn uFmt (eVar 4)) aNil))))))) [some (pD p), some (.int p.i), some (.int p.o), some (.int p.b), some (.int p.w)]
      = some [.str (S (numT p.i)), .str (S [45]), .str (S (numT p.o)), .str (S [64]), .str (S (numT p.b)), .str (S [43]), .str (S (numT p.w))] := by
    have e1 : eUn uFmt (eVar 1) [some (pD p), some (.int p.i), some (.int p.o), some (.int p.b), some (.int p.w)] = some (.str (S (numT p.i))) := (un_ev rfl).trans (fmt_ev h1)
    have e2 : eUn uFmt (eVar 2) [some (pD p), some (.int p.i), some (.int p.o), some (.int p.b), some (.int p.w)] = some (.str (S (numT p.o))) := (un_ev rfl).trans (fmt_ev h2)
    have e3 : eUn uFmt (eVar 3) [some (pD p), some (.int p.i), some (.int p.o), some (.int p.b), some (.int p.w)] = some (.str (S (numT p.b))) := (un_ev rfl).trans (fmt_ev h3)
    have e4 : eUn uFmt (eVar 4) [some (pD p), some (.int p.i), some (.int p.o), some (.int p.b), some (.int p.w)] = some (.str (S (numT p.w))) := (un_ev rfl).trans (fmt_ev h4)
    simp only [aCons, e1, e2, e3, e4, eC, aNil, Option.bind_some, lit_minus, lit_at, lit_plus]
  have hgl : glueAll Str.empty [S (numT p.i), S [45], S (numT p.o), S [64], S (numT p.b), S [43], S (numT p.w)] = S (textP p) := by
    simp only [glueAll, List.foldl_cons, List.foldl_nil, empty_S, S_append]
    unfold textP
    simp
  show eFstr _ [some (pD p), some (.int p.i), some (.int p.o), some (.int p.b), some (.int p.w)] = _
  unfold eFstr
  rw [ha]
  simp only [Option.bind_some, textsOf]
  rw [hgl, if_pos]
  have := textP_len h
  rw [len_S]
  omega
theorem r_written {ps : List Pc} (hk : okS ps = true) : m_written [.tup (ps.map pD)] = some (.str (S (textL ps))) := by
  obtain ⟨hl, ha⟩ := okS_all hk
  refine fn_ev rfl ?_
  show b_written [some (.tup (ps.map pD))] = _
  unfold b_written
  cases hp : ps with
  | nil =>
    refine seq_rt ((if_T rfl).trans (ret_ev ?_))
    show some (D.str "none") = _
    rw [lit_none]
    rfl
  | cons p qs =>
    rw [← hp]
    have t0 : tV (eOp oEq (eCall fLen (aCons (eVar 0) aNil)) (eC (.int 0))) [some (.tup (ps.map pD))] = some false := by
      refine tV_ev (d := .bl (eqD (.int (ps.map pD).length) (.int 0))) ((op_ev (x := .int (ps.map pD).length) (y := .int 0) rfl rfl).trans rfl) ?_
      simp [truth, eqD, hp]
      omega
    refine (seq_nx ((if_F t0).trans rfl)).trans ?_
    have hc := comp_ev (k := 1) (fv := []) (i := iSeq (eVar 0)) (g := gN 0) (c := tT) (e := eCall m_written_piece (aCons (eVar 0) aNil)) (δ := [some (.tup (ps.map pD))]) (xs := ps.map pD)
      (fun d => match d with | .tup [.int i, .int o, .int b, .int w] => some (.str (S (textP ⟨i.toNat, o.toNat, b.toNat, w.toNat⟩))) | _ => none) rfl (by simp; omega) fun x hx => by
        obtain ⟨q, hq, rfl⟩ := List.mem_map.mp hx
        exact ⟨_, rfl, .inl ⟨rfl, .str (S (textP q)), (call1_ev (x := pD q) rfl).trans (r_written_piece (ha q hq)), rfl⟩⟩
    refine ret_ev ((op_ev (x := .str " ") (y := .lst (wordsD ps)) rfl (hc.trans ?_)).trans (join_words hk (by simp [hp])))
    rw [List.filterMap_map]
    have : ((fun d => match d with | D.tup [.int i, .int o, .int b, .int w] => some (D.str (S (textP ⟨i.toNat, o.toNat, b.toNat, w.toNat⟩))) | _ => none) ∘ pD) = fun p : Pc => some (D.str (S (textP p))) := by
      funext q
      rfl
    rw [this, List.filterMap_eq_map']
    rfl
end DL.K02

set_option Elab.async false
set_option linter.all false
set_option maxRecDepth 100000
set_option maxHeartbeats 1000000
namespace DL.K02
open PySem DL PySem.NumText
theorem eq_str (x y : Str) : oEq (.str x) (.str y) = some (.bl (x == y)) := by simp [oEq, depD, eqD]
theorem ne_str (x y : Str) : oNe (.str x) (.str y) = some (.bl (!(x == y))) := by simp [oNe, depD, eqD]
theorem lit_empty : ("" : Str) = S [] := by decide +kernel
theorem lit_zero : ("0" : Str) = S [48] := by decide +kernel
theorem lit_figs : ("0123456789" : Str) = S [48, 49, 50, 51, 52, 53, 54, 55, 56, 57] := by decide +kernel
theorem beq_S (x : Str) (l : Li) : (x == S l) = decide (L x = l) := by
  rw [Bool.eq_iff_iff]
  simp only [beq_iff_eq, decide_eq_true_eq]
  exact ⟨fun h => by rw [h, L_S], fun h => by rw [← h, S_L]⟩
theorem len_str {x : Str} (h : x.length ≤ 16777216) : fLen [.str x] = some (.int (L x).length) := by
  show (if _ then _ else _) = _
  rw [if_pos h, len_L]
theorem sign_in (c : Nat) : oIn (.str ⟨#[c]⟩) (.str "0123456789") = some (.bl (decide (48 ≤ c) && decide (c ≤ 57))) := by
  show some (D.bl (!(Builtin.Str.occurrences "0123456789" ⟨#[c]⟩ 0 ("0123456789" : Str).length 1).isEmpty)) = _
  rw [StrLaws.found_one, lit_figs]
  congr 2
  show decide (c ∈ L (S _)) = _
  rw [L_S, Bool.eq_iff_iff]
  simp
  omega
theorem all_signs (x : Str) (h : x.length ≤ 16777216) : eCall fAll (aCons (eComp 1 [] (iStr (eVar 0)) (gN 0) tT (eOp oIn (eVar 0) (eC (.str "0123456789")))) aNil) [some (.str x)] = some (.bl ((L x).all fun c => decide (48 ≤ c) && decide (c ≤ 57))) := by
  have hc := comp_ev (k := 1) (fv := []) (i := iStr (eVar 0)) (g := gN 0) (c := tT) (e := eOp oIn (eVar 0) (eC (.str "0123456789"))) (δ := [some (.str x)]) (xs := signsD x)
    (fun d => match d with | .str y => some (.bl (decide (48 ≤ y.cps.getD 0 0) && decide (y.cps.getD 0 0 ≤ 57))) | _ => none) rfl (by unfold signsD; rw [List.length_map, len_L]; exact h) fun d hd => by
      obtain ⟨c, _, rfl⟩ := List.mem_map.mp hd
      exact ⟨_, rfl, .inl ⟨rfl, _, (op_ev rfl rfl).trans (sign_in c), rfl⟩⟩
  rw [call1_ev hc]
  unfold signsD
  rw [List.filterMap_map]
  have : ((fun d => match d with | D.str y => some (D.bl (decide (48 ≤ y.cps.getD 0 0) && decide (y.cps.getD 0 0 ≤ 57))) | _ => none) ∘ fun c : Nat => D.str ⟨#[c]⟩) = fun c => some (D.bl (decide (48 ≤ c) && decide (c ≤ 57))) := by
    funext c
    rfl
  rw [this, List.filterMap_eq_map']
  show (allB _).bind _ = _
  have hb : ∀ l : Li, allB (l.map fun c => D.bl (decide (48 ≤ c) && decide (c ≤ 57))) = some (l.all fun c => decide (48 ≤ c) && decide (c ≤ 57)) := by
    intro l
    induction l with
    | nil => rfl
    | cons c l ih => simp only [List.map_cons, allB, ih, List.all_cons]; rfl
  rw [hb]
  rfl
theorem len_999 : eCall fLen (aCons (eCall fStr (aCons (eC (.int 999)) aNil)) aNil) = fun _ => some (.int 3) := by
  funext δ
  rw [call1_ev ((call1_ev rfl).trans (str_ev (n := 999) (by decide))), len_str (by rw [len_S]; decide), L_S, show (numT 999).length = 3 by decide]
  rfl
theorem r_is_number (x : Str) (h : x.length ≤ 16777216) : m_is_number [.str x] = some (.bl (isNumB (L x))) := by
  refine fn_ev rfl ?_
  show b_is_number [some (.str x)] = _
  unfold b_is_number
  rw [len_999]
  have hlen : eCall fLen (aCons (eVar 0) aNil) [some (.str x)] = some (.int (L x).length) := (call1_ev rfl).trans (len_str h)
  have t1 : tV (eOp oEq (eVar 0) (eC (.str ""))) [some (.str x)] = some (decide (L x = [])) := by
    refine tV_ev (d := .bl (x == "")) ((op_ev rfl rfl).trans (eq_str _ _)) ?_
    rw [lit_empty, beq_S]
    rfl
  have t2 : tV (eOp oGt (eCall fLen (aCons (eVar 0) aNil)) (fun _ => some (.int 3))) [some (.str x)] = some (decide (3 < (L x).length)) := by
    refine tV_ev (d := .bl (decide ((3 : Int) < (L x).length))) ((op_ev hlen rfl).trans rfl) ?_
    simp [truth]
    omega
  have t3 := tOr_ev t1 t2
  have last := all_signs x h
  cases hx : L x with
  | nil =>
    rw [hx] at t3
    exact (seq_rt ((if_T t3).trans (ret_ev rfl))).trans rfl
  | cons c r =>
    have h0 : oIx (.str x) (.int 0) = some (.str ⟨#[c]⟩) := by
      show (if x.length ≤ 16777216 then _ else _) = _
      rw [if_pos h]
      show (ixD (L x).length 0).bind _ = _
      have e0 : ixD (L x).length 0 = some 0 := by rw [hx]; simp [ixD]
      rw [e0]
      show ((L x)[0]?).bind _ = _
      rw [hx]
      rfl
    have t4 : tV (eOp oEq (eOp oIx (eVar 0) (eC (.int 0))) (eC (.str "0"))) [some (.str x)] = some (decide (c = 48)) := by
      refine tV_ev (d := .bl ((⟨#[c]⟩ : Str) == "0")) ((op_ev ((op_ev rfl rfl).trans h0) rfl).trans (eq_str _ _)) ?_
      rw [lit_zero, beq_S, one_S, L_S]
      simp [truth]
    have t5 : tV (eOp oNe (eVar 0) (eC (.str "0"))) [some (.str x)] = some (!decide (L x = [48])) := by
      refine tV_ev (d := .bl (!(x == "0"))) ((op_ev rfl rfl).trans (ne_str _ _)) ?_
      rw [lit_zero, beq_S]
      rfl
    by_cases h3 : 3 < (L x).length
    · rw [decide_eq_true h3, Bool.or_true] at t3
      refine (seq_rt ((if_T t3).trans (ret_ev rfl))).trans ?_
      rw [hx] at h3
      have : isNumB (c :: r) = false := by
        unfold isNumB
        rw [decide_eq_false (by omega)]
        simp
      rw [this]
    · rw [decide_eq_false h3, hx] at t3
      refine (seq_nx ((if_F t3).trans rfl)).trans ?_
      have t6 : tAnd (tV (eOp oEq (eOp oIx (eVar 0) (eC (.int 0))) (eC (.str "0")))) (tV (eOp oNe (eVar 0) (eC (.str "0")))) [some (.str x)] = some (decide (c = 48) && !decide (L x = [48])) := by
        unfold tAnd
        rw [t4]
        by_cases hc : c = 48
        · simp [hc, t5]
        · simp [hc]
      rw [hx] at h3 t6 last
      by_cases hz : (decide (c = 48) && !decide (c :: r = [48])) = true
      · rw [hz] at t6
        refine (seq_rt ((if_T t6).trans (ret_ev rfl))).trans ?_
        simp at hz
        have : isNumB (c :: r) = false := by
          unfold isNumB
          have e1 : ((c :: r).head? == some 48) = true := by simp [hz.1]
          have e2 : (c :: r == [48]) = false := by
            rw [beq_eq_false_iff_ne]
            intro z
            injection z with z1 z2
            rcases hz.2 with q | q
            · exact q z1
            · exact q z2
          rw [e1, e2]
          simp
        rw [this]
      · have hz' : (decide (c = 48) && !decide (c :: r = [48])) = false := by simpa using hz
        rw [hz'] at t6
        refine (seq_nx ((if_F t6).trans rfl)).trans ?_
        refine (ret_ev last).trans ?_
        have : isNumB (c :: r) = (c :: r).all fun c => decide (48 ≤ c) && decide (c ≤ 57) := by
          unfold isNumB
          have e1 : (!(c :: r).isEmpty) = true := rfl
          have e2 : decide ((c :: r).length ≤ 3) = true := decide_eq_true (by omega)
          have e3 : (!((c :: r).head? == some 48) || c :: r == [48]) = true := by
            rw [Bool.or_eq_true]
            by_cases hc : c = 48
            · right
              simp [hc] at hz'
              simp [hc, hz']
            · left
              simp [hc]
          rw [e1, e2, e3]
          simp only [Bool.true_and]
        rw [this]
/-! own errors: running -/
theorem fnX_rt {n k : Nat} {m : MS} {ds : List D} {r : D} (hl : ds.length = n) (h : m (ds.map some ++ List.replicate (k - n) none) = some (.rt r)) : fnX n k m ds = some (some r) := by
  unfold fnX
  rw [if_pos hl, h]
  rfl
theorem fnX_ex {n k : Nat} {m : MS} {ds : List D} (hl : ds.length = n) (h : m (ds.map some ++ List.replicate (k - n) none) = some .ex) : fnX n k m ds = some none := by
  unfold fnX
  rw [if_pos hl, h]
  rfl
theorem seq_ex {a b : MS} {δ : Ev} (h : a δ = some .ex) : sSeq a b δ = some .ex := by unfold sSeq; rw [h]; rfl
theorem r_read_number (x : Str) (h : x.length ≤ 16777216) : m_read_number [.str x] = some (if isNumB (L x) = true then some (.int (digitsVal (L x) : Nat)) else none) := by
  have hn := tNot_ev (tV_ev ((call1_ev (x := .str x) rfl).trans (r_is_number x h) : eCall m_is_number (aCons (eVar 0) aNil) [some (.str x)] = _) rfl)
  cases hb : isNumB (L x) with
  | false =>
    rw [hb] at hn
    refine (fnX_ex rfl ?_).trans (by simp)
    show b_read_number [some (.str x)] = _
    exact seq_ex ((if_T hn).trans rfl)
  | true =>
    rw [hb] at hn
    refine (fnX_rt (r := .int (digitsVal (L x) : Nat)) rfl ?_).trans (by simp)
    show b_read_number [some (.str x)] = _
    refine (seq_nx ((if_F hn).trans rfl)).trans (ret_ev ((call1_ev (x := .str x) rfl).trans ?_))
    show (if x.length ≤ 640 then (intText? x).bind _ else none) = _
    have := (isNum_digits hb).2.2.1
    rw [if_pos (by rw [← len_L]; omega), isNum_int hb]
    rfl
/-! the parts of a piece -/
theorem part_ev {x : Str} (c : Nat) (h : x.length ≤ 16777216) : ∃ m, oPart (.str x) (.str ⟨#[c]⟩) = some (.tup [.str (S (cutL c (L x)).1), m, .str (S (cutL c (L x)).2)]) := by
  obtain ⟨e1, e2⟩ := part_one x c
  refine ⟨.str (Txt.partition x ⟨#[c]⟩).2.1, ?_⟩
  show (if _ then _ else _) = _
  rw [if_pos ⟨rfl, h⟩, ← e1, ← e2, S_L, S_L]
theorem cut_len (c : Nat) (l : Li) : (cutL c l).1.length ≤ l.length ∧ (cutL c l).2.length ≤ l.length := by
  unfold cutL
  refine ⟨(List.takeWhile_sublist _).length_le, ?_⟩
  simp only [List.length_tail]
  have := (List.dropWhile_sublist (l := l) (· != c)).length_le
  omega
theorem parts_turn {x r p q : Str} {z4 : Option D} (ds : List D) (sg : Option D) {c : Nat} (hd : ds.length < 16777216) (hr : r.length ≤ 16777216) :
    ∃ m, b_parts_of_piece_1 [some (.str x), none, some (.str r), some (.str ⟨#[c]⟩), z4, none, some (.lst ds), none, none, none]
      = some (.nx [some (.str x), none, some (.str (S (cutL c (L r)).2)), some (.str ⟨#[c]⟩), some m, none, some (.lst (ds ++ [.str (S (cutL c (L r)).1)])), none, none, none]) := by
  obtain ⟨m, hm⟩ := part_ev (x := r) c hr
  refine ⟨.tup [.str (S (cutL c (L r)).1), m, .str (S (cutL c (L r)).2)], ?_⟩
  unfold b_parts_of_piece_1
  refine (seq_nx (asg_ev ((op_ev rfl rfl).trans hm) rfl)).trans ?_
  refine (seq_nx (δ' := [some (.str x), none, some (.str r), some (.str ⟨#[c]⟩), some (.tup [.str (S (cutL c (L r)).1), m, .str (S (cutL c (L r)).2)]), none, some (.lst (ds ++ [.str (S (cutL c (L r)).1)])), none, none, none]) ?_).trans rfl
  show (some (D.str (S (cutL c (L r)).1))).bind _ = _
  simp [ownAt, slot, hd]
def quadD (l : Li) : List D := [.str (S (quadL l).1), .str (S (quadL l).2.1), .str (S (quadL l).2.2.1), .str (S (quadL l).2.2.2)]
theorem r_parts (x : Str) (h : x.length ≤ 16777216) : m_parts_of_piece [.str x] = some (.lst (quadD (L x))) := by
  have l1 := cut_len 45 (L x)
  have l2 := cut_len 64 (cutL 45 (L x)).2
  have hl := len_L x
  refine fn_ev rfl ?_
  show b_parts_of_piece [some (.str x), none, none, none, none, none, none, none, none, none] = _
  unfold b_parts_of_piece
  refine (seq_nx (δ' := [some (.str x), none, none, none, none, none, some (.lst []), none, none, none]) rfl).trans ?_
  refine (seq_nx (δ' := [some (.str x), none, some (.str x), none, none, none, some (.lst []), none, none, none]) rfl).trans ?_
  obtain ⟨m1, e1⟩ := parts_turn (x := x) (r := x) (p := x) (q := x) (z4 := none) [] none (c := 45) (by decide) h
  obtain ⟨m2, e2⟩ := parts_turn (x := x) (r := S (cutL 45 (L x)).2) (p := x) (q := x) (z4 := some m1) [.str (S (cutL 45 (L x)).1)] none (c := 64) (by simp) (by rw [len_S]; omega)
  obtain ⟨m3, e3⟩ := parts_turn (x := x) (r := S (cutL 64 (cutL 45 (L x)).2).2) (p := x) (q := x) (z4 := some m2) [.str (S (cutL 45 (L x)).1), .str (S (cutL 64 (cutL 45 (L x)).2).1)] none (c := 43) (by simp) (by rw [len_S]; omega)
  rw [L_S] at e2 e3
  have hloop : forM (gN 3) b_parts_of_piece_1 (List.map D.str ["-", "@", "+"]) [some (.str x), none, some (.str x), none, none, none, some (.lst []), none, none, none]
      = some (.nx [some (.str x), none, some (.str (S (cutL 43 (cutL 64 (cutL 45 (L x)).2).2).2)), some (.str ⟨#[43]⟩), some m3, none, some (.lst [.str (S (cutL 45 (L x)).1), .str (S (cutL 64 (cutL 45 (L x)).2).1), .str (S (cutL 43 (cutL 64 (cutL 45 (L x)).2).2).1)]), none, none, none]) := by
    have d1 : (List.map D.str ["-", "@", "+"] : List D) = [.str ⟨#[45]⟩, .str ⟨#[64]⟩, .str ⟨#[43]⟩] := by
      rw [one_S, one_S, one_S, ← lit_minus, ← lit_at, ← lit_plus]
      rfl
    rw [d1]
    simp only [forM]
    show (b_parts_of_piece_1 [some (.str x), none, some (.str x), some (.str ⟨#[45]⟩), none, none, some (.lst []), none, none, none]).bind _ = _
    rw [e1]
    show (b_parts_of_piece_1 [some (.str x), none, some (.str (S (cutL 45 (L x)).2)), some (.str ⟨#[64]⟩), some m1, none, some (.lst [.str (S (cutL 45 (L x)).1)]), none, none, none]).bind _ = _
    rw [e2]
    show (b_parts_of_piece_1 [some (.str x), none, some (.str (S (cutL 64 (cutL 45 (L x)).2).2)), some (.str ⟨#[43]⟩), some m2, none, some (.lst [.str (S (cutL 45 (L x)).1), .str (S (cutL 64 (cutL 45 (L x)).2).1)]), none, none, none]).bind _ = _
    rw [e3]
    rfl
  refine (seq_nx ((sfor_ev (xs := List.map D.str ["-", "@", "+"]) rfl).trans hloop)).trans ?_
  rfl
/-! pieces and sheets -/
theorem compX_nums {turn : D → Option (Option (Option D))} (h : ∀ x : Str, x.length ≤ 16777216 → turn (.str x) = some (if isNumB (L x) = true then some (some (.int (digitsVal (L x) : Nat))) else none)) (a b c d : Li)
    (ha : a.length ≤ 16777216) (hb : b.length ≤ 16777216) (hc : c.length ≤ 16777216) (hd : d.length ≤ 16777216) :
    compXM turn [.str (S a), .str (S b), .str (S c), .str (S d)] = some (if (isNumB a && isNumB b && isNumB c && isNumB d) = true then some [.int (digitsVal a : Nat), .int (digitsVal b : Nat), .int (digitsVal c : Nat), .int (digitsVal d : Nat)] else none) := by
  have h1 := h (S a) (by rw [len_S]; exact ha)
  have h2 := h (S b) (by rw [len_S]; exact hb)
  have h3 := h (S c) (by rw [len_S]; exact hc)
  have h4 := h (S d) (by rw [len_S]; exact hd)
  rw [L_S] at h1 h2 h3 h4
  simp only [compXM, h1, h2, h3, h4]
  cases isNumB a <;> cases isNumB b <;> cases isNumB c <;> cases isNumB d <;> rfl
theorem r_read_piece (x : Str) (h : x.length ≤ 16777216) : m_read_piece [.str x] = some ((pieceL (L x)).map pD) := by
  have l1 := cut_len 45 (L x)
  have l2 := cut_len 64 (cutL 45 (L x)).2
  have l3 := cut_len 43 (cutL 64 (cutL 45 (L x)).2).2
  have hl := len_L x
  have hc := compX_nums (turn := fun y => (gN 0 y (pick 1 [] [some (.str x)])).bind fun δ1 => (tT δ1).bind fun b => if b = true then (xCall m_read_number (aCons (eVar 0) aNil) δ1).bind fun r => some (r.map fun d => some d) else some (some none))
    (fun y hy => by
      show (m_read_number [.str y]).bind _ = _
      rw [r_read_number y hy]
      cases isNumB (L y) <;> rfl) (quadL (L x)).1 (quadL (L x)).2.1 (quadL (L x)).2.2.1 (quadL (L x)).2.2.2
    (by simp only [quadL]; omega) (by simp only [quadL]; omega) (by simp only [quadL]; omega) (by simp only [quadL]; omega)
  have hi : iSeq (eCall m_parts_of_piece (aCons (eVar 0) aNil)) [some (.str x)] = some (quadD (L x)) := by
    unfold iSeq
    rw [call1_ev (x := .str x) rfl, r_parts x h]
    rfl
  have he : eCompX (pick 1 []) (iSeq (eCall m_parts_of_piece (aCons (eVar 0) aNil))) (gN 0) tT (xCall m_read_number (aCons (eVar 0) aNil)) [some (.str x)] =
      some ((if (isNumB (quadL (L x)).1 && isNumB (quadL (L x)).2.1 && isNumB (quadL (L x)).2.2.1 && isNumB (quadL (L x)).2.2.2) = true then some [.int (digitsVal (quadL (L x)).1 : Nat), .int (digitsVal (quadL (L x)).2.1 : Nat), .int (digitsVal (quadL (L x)).2.2.1 : Nat), .int (digitsVal (quadL (L x)).2.2.2 : Nat)] else none).map D.lst) := by
    unfold eCompX
    rw [hi]
    simp only [Option.bind_some]
    rw [if_pos (by simp [quadD])]
    unfold quadD
    rw [hc]
    rfl
  unfold pieceL
  split
  · rename_i hq
    rw [if_pos hq] at he
    refine (fnX_rt (r := .tup [.int (digitsVal (quadL (L x)).1 : Nat), .int (digitsVal (quadL (L x)).2.1 : Nat), .int (digitsVal (quadL (L x)).2.2.1 : Nat), .int (digitsVal (quadL (L x)).2.2.2 : Nat)]) rfl ?_).trans rfl
    show b_read_piece [some (.str x)] = _
    unfold b_read_piece sRetX xTy
    rw [he]
    rfl
  · rename_i hq
    rw [if_neg hq] at he
    refine (fnX_ex rfl ?_).trans rfl
    show b_read_piece [some (.str x)] = _
    unfold b_read_piece sRetX xTy
    rw [he]
    rfl
theorem compX_pieces {turn : D → Option (Option (Option D))} (h : ∀ x : Str, x.length ≤ 16777216 → turn (.str x) = some (((pieceL (L x)).map pD).map fun d => some d)) : ∀ (xs : List Str), (∀ x ∈ xs, x.length ≤ 16777216) →
    compXM turn (xs.map D.str) = some ((piecesL (xs.map L)).map fun ps => ps.map pD)
  | [], _ => rfl
  | x :: xs, hx => by
    have ih := compX_pieces h xs fun y hy => hx y (List.mem_cons_of_mem _ hy)
    simp only [List.map_cons, compXM, h x (hx x List.mem_cons_self), piecesL]
    cases pieceL (L x) with
    | none => rfl
    | some p =>
      simp only [Option.map_some, Option.bind_some, ih]
      cases piecesL (xs.map L) <;> rfl
theorem sheetB_D (ps : List Pc) : isSheetB (.tup (ps.map pD)) = okS ps := by
  show (decide ((ps.map pD).length ≤ 8) && (ps.map pD).all isPieceB) = okS ps
  unfold okS
  rw [List.length_map, List.all_map]
  congr 2
  funext p
  show (decide (0 ≤ (p.i : Int) ∧ (p.i : Int) < p.o ∧ (p.o : Int) ≤ 999) && decide (0 ≤ (p.b : Int) ∧ (p.b : Int) < 24 ∧ 1 ≤ (p.w : Int) ∧ (p.w : Int) ≤ 24)) = okP p
  unfold okP
  rw [Bool.eq_iff_iff]
  simp only [Bool.and_eq_true, decide_eq_true_eq]
  omega
theorem r_is_sheet_D (ps : List Pc) (h : ps.length ≤ 16777216) : m_is_sheet [.tup (ps.map pD)] = some (.bl (okS ps)) := by
  rw [← sheetB_D]
  refine r_is_sheet _ (by simp [Short]; omega) fun ds e x hx => ?_
  cases e
  obtain ⟨p, _, rfl⟩ := List.mem_map.mp hx
  simp [pD, Short]
theorem pieces_len : ∀ {ls : List Li} {ps : List Pc}, piecesL ls = some ps → ps.length = ls.length := fun h => by rw [← pieces_back h, List.length_map]
theorem r_read (x : Str) (h : x.length + 2 ≤ 16777216) : m_read [.str x] = some ((readL (L x)).map fun ps => .tup (ps.map pD)) := by
  have t0 : tV (eOp oEq (eVar 0) (eC (.str "none"))) [some (.str x), none] = some (decide (L x = noneL)) := by
    refine tV_ev (d := .bl (x == "none")) ((op_ev rfl rfl).trans (eq_str _ _)) ?_
    rw [lit_none, beq_S]
    rfl
  unfold readL
  by_cases hn : L x = noneL
  · rw [if_pos hn]
    rw [decide_eq_true hn] at t0
    refine (fnX_rt (r := .tup []) rfl ?_).trans rfl
    show b_read [some (.str x), none] = _
    exact seq_rt ((if_T t0).trans (ret_ev rfl))
  · rw [if_neg hn]
    rw [decide_eq_false hn] at t0
    have hsp : oSplit (.str x) (.str " ") = some (.lst ((Txt.split x ⟨#[32]⟩).map D.str)) := by
      show (if _ then _ else _) = _
      rw [lit_blank, if_pos ⟨rfl, h⟩]
      rfl
    have hle := PyProof.Rows.split_le x ⟨#[32]⟩
    have hmem : ∀ y ∈ Txt.split x ⟨#[32]⟩, y.length ≤ 16777216 := fun y hy => by
      have e := congrArg List.length (splitL_join 32 (L x))
      rw [← split_one] at e
      have hlen : ∀ (ls : List Li) (l : Li), l ∈ ls → l.length ≤ (joinL 32 ls).length := by
        intro ls
        induction ls with
        | nil => intro l hl; cases hl
        | cons a r ih =>
          intro l hl
          cases r with
          | nil => rw [List.mem_singleton.mp hl]; exact Nat.le_refl _
          | cons b r =>
            simp only [joinL, List.length_append, List.length_cons]
            rcases List.mem_cons.mp hl with rfl | hl
            · omega
            · have := ih l hl; omega
      have := hlen _ (L y) (List.mem_map_of_mem (f := L) hy)
      rw [e, len_L, len_L] at this
      omega
    have hc := compX_pieces (turn := fun y => (gN 0 y (pick 1 [] [some (.str x), none])).bind fun δ1 => (tT δ1).bind fun b => if b = true then (xCall m_read_piece (aCons (eVar 0) aNil) δ1).bind fun r => some (r.map fun d => some d) else some (some none))
      (fun y hy => by
        show (m_read_piece [.str y]).bind _ = _
        rw [r_read_piece y hy]
        rfl) _ hmem
    rw [split_one] at hc
    have he : eCompX (pick 1 []) (iSeq (eOp oSplit (eVar 0) (eC (.str " ")))) (gN 0) tT (xCall m_read_piece (aCons (eVar 0) aNil)) [some (.str x), none] = some ((piecesL (splitL 32 (L x))).map fun ps => .lst (ps.map pD)) := by
      unfold eCompX
      have hi : iSeq (eOp oSplit (eVar 0) (eC (.str " "))) [some (.str x), none] = some ((Txt.split x ⟨#[32]⟩).map D.str) := by
        unfold iSeq
        rw [op_ev rfl rfl, hsp]
        rfl
      rw [hi]
      simp only [Option.bind_some]
      rw [if_pos (by rw [List.length_map]; omega), hc]
      cases piecesL (splitL 32 (L x)) <;> rfl
    cases hp : piecesL (splitL 32 (L x)) with
    | none =>
      rw [hp] at he
      refine (fnX_ex rfl ?_).trans rfl
      show b_read [some (.str x), none] = _
      refine (seq_nx ((if_F t0).trans rfl)).trans (seq_ex ?_)
      unfold sAsgX xTy
      rw [he]
      rfl
    | some ps =>
      rw [hp] at he
      have hl2 : ps.length ≤ 16777216 := by
        rw [pieces_len hp, ← split_one, List.length_map]
        omega
      have hs := tNot_ev (tV_ev ((call1_ev (x := .tup (ps.map pD)) rfl).trans (r_is_sheet_D ps hl2) : eCall m_is_sheet (aCons (eVar 1) aNil) [some (.str x), some (.tup (ps.map pD))] = _) rfl)
      have ha : sAsgX (xTy fTuple (eCompX (pick 1 []) (iSeq (eOp oSplit (eVar 0) (eC (.str " ")))) (gN 0) tT (xCall m_read_piece (aCons (eVar 0) aNil)))) (gN 1) [some (.str x), none] = some (.nx [some (.str x), some (.tup (ps.map pD))]) := by
        unfold sAsgX xTy
        rw [he]
        rfl
      simp only [Option.bind_some]
      cases hk : okS ps with
      | true =>
        rw [hk] at hs
        refine (fnX_rt (r := .tup (ps.map pD)) rfl ?_).trans (by simp)
        show b_read [some (.str x), none] = _
        refine (seq_nx ((if_F t0).trans rfl)).trans ((seq_nx ha).trans ?_)
        exact (seq_nx ((if_F hs).trans rfl)).trans rfl
      | false =>
        rw [hk] at hs
        refine (fnX_ex rfl ?_).trans (by simp)
        show b_read [some (.str x), none] = _
        refine (seq_nx ((if_F t0).trans rfl)).trans ((seq_nx ha).trans ?_)
        exact seq_ex ((if_T hs).trans rfl)
end DL.K02

set_option Elab.async false
set_option linter.all false
set_option maxRecDepth 100000
set_option maxHeartbeats 1000000
namespace DL.K02
open PySem DL PySem.NumText
/-! the law's own reading, by try -/
def foundD : Option (List Pc) → D
  | some ps => .tup (ps.map pD)
  | none => .non
theorem r_law_read (x : Str) (h : x.length + 2 ≤ 16777216) : m__law_read [.str x] = some (foundD (readL (L x))) := by
  refine fn_ev rfl ?_
  show b__law_read [some (.str x), none, none] = _
  unfold b__law_read
  refine (seq_nx (δ' := [some (.str x), some (.str "other"), none]) rfl).trans ?_
  have ht : sTry 3 1 2 (xCall m_read (aCons (eVar 0) aNil)) .non [some (.str x), some (.str "other"), none] = some (.nx [some (.str x), some (foundD (readL (L x))), none]) := by
    show (xCall m_read (aCons (eVar 0) aNil) [some (.str x), some (.str "other"), none]).bind _ = _
    have e : xCall m_read (aCons (eVar 0) aNil) [some (.str x), some (.str "other"), none] = some ((readL (L x)).map fun ps => .tup (ps.map pD)) := by
      show (m_read [.str x]) = _
      exact r_read x h
    rw [e]
    cases readL (L x) <;> rfl
  exact (seq_nx ht).trans rfl
/-! a spoilt text: some text, not much longer -/
theorem slice_ev {x : Str} {a : ME} {lo hi : MP} {δ : Ev} {l u : Option Int} (ha : a δ = some (.str x)) (hl : lo δ = some l) (hh : hi δ = some u) (hx : x.length ≤ 1000) : ∃ y : Str, eSl a lo hi δ = some (.str y) ∧ y.length ≤ 1000 := by
  refine ⟨Txt.slice x l u, ?_, Nat.le_trans (Txt.slice_le x l u) hx⟩
  unfold eSl
  rw [ha, hl, hh]
  simp only [Option.bind_some]
  rw [if_pos (by omega)]
theorem addS_ev {a b : ME} {δ : Ev} {x y : Str} (ha : a δ = some (.str x)) (hb : b δ = some (.str y)) (hl : x.length + y.length ≤ 10000) : ∃ z : Str, eOp oAdd a b δ = some (.str z) ∧ z.length = x.length + y.length := by
  refine ⟨x ++ y, (op_ev ha hb).trans ?_, ?_⟩
  · show (if _ then _ else _) = _
    rw [if_pos (by omega)]
  · rw [← len_L, ← len_L, ← len_L, L_append, List.length_append]
theorem pAt_ev {m : ME} {δ : Ev} {i : Int} (h : m δ = some (.int i)) : pAt m δ = some (some i) := by unfold pAt; rw [h]; rfl
theorem menu_ev (k : Int) : ∃ y : Str, oIx (.str "019-@+ ,xn") (.int (k % 10)) = some (.str y) ∧ y.length ≤ 1000 := by
  have h1 := Int.emod_nonneg k (show (10 : Int) ≠ 0 by decide)
  have h2 := Int.emod_lt_of_pos k (show (0 : Int) < 10 by decide)
  have hlen : (L ("019-@+ ,xn" : Str)).length = 10 := by decide +kernel
  have hz : ("019-@+ ,xn" : Str).length ≤ 16777216 := by rw [← len_L, hlen]; decide
  generalize k % 10 = j at h1 h2
  have hj : j.toNat < (L ("019-@+ ,xn" : Str)).length := by rw [hlen]; omega
  refine ⟨⟨#[(L ("019-@+ ,xn" : Str))[j.toNat]]⟩, ?_, by show 1 ≤ 1000; decide⟩
  show (if ("019-@+ ,xn" : Str).length ≤ 16777216 then (ixD (L ("019-@+ ,xn" : Str)).length j).bind _ else none) = _
  rw [if_pos hz]
  have e : ixD (L ("019-@+ ,xn" : Str)).length j = some j.toNat := by
    unfold ixD
    rw [if_pos h1, hlen, if_pos (by omega)]
  rw [e]
  show ((L ("019-@+ ,xn" : Str))[j.toNat]?).bind _ = _
  rw [List.getElem?_eq_getElem hj]
  rfl
theorem r_spoilt (x : Str) (c : Int) (hx : x.length ≤ 1000) : ∃ y : Str, m__law_spoilt [.str x, .int c] = some (.str y) ∧ y.length ≤ 4000 := by
  obtain ⟨sg, hsg, hsl⟩ := menu_ev (c / 512)
  have hlen : eCall fLen (aCons (eVar 0) aNil) [some (.str x), some (.int c), none, none] = some (.int (L x).length) := (call1_ev rfl).trans (len_str (by omega))
  have hat : eOp oMod (eOp oFdiv (eVar 1) (eC (.int 4))) (eOp oAdd (eCall fLen (aCons (eVar 0) aNil)) (eC (.int 1))) [some (.str x), some (.int c), none, none] = some (.int (c / 4 % ((L x).length + 1))) := by
    rw [op_ev (x := .int (c / 4)) (y := .int ((L x).length + 1)) ((op_ev rfl rfl).trans (by simp [oFdiv, oI])) ((op_ev hlen rfl).trans rfl)]
    have : (0 : Int) < (L x).length + 1 := by omega
    simp [oMod, oI, this]
  generalize c / 4 % ((L x).length + 1) = a at hat
  have hix : eOp oIx (eC (.str "019-@+ ,xn")) (eOp oMod (eOp oFdiv (eVar 1) (eC (.int 512))) (eC (.int 10))) [some (.str x), some (.int c), some (.int a), none] = some (.str sg) :=
    (op_ev (x := .str "019-@+ ,xn") (y := .int (c / 512 % 10)) rfl ((op_ev (x := .int (c / 512)) (y := .int 10) ((op_ev rfl rfl).trans (by simp [oFdiv, oI])) rfl).trans (by simp [oMod, oI]))).trans hsg
  have hm4 : eOp oMod (eVar 1) (eC (.int 4)) [some (.str x), some (.int c), some (.int a), some (.str sg)] = some (.int (c % 4)) := (op_ev rfl rfl).trans (by simp [oMod, oI])
  have hv0 : eVar 0 [some (.str x), some (.int c), some (.int a), some (.str sg)] = some (.str x) := rfl
  have hv2 : eVar 2 [some (.str x), some (.int c), some (.int a), some (.str sg)] = some (.int a) := rfl
  have hp1 : eOp oAdd (eVar 2) (eC (.int 1)) [some (.str x), some (.int c), some (.int a), some (.str sg)] = some (.int (a + 1)) := rfl
  have t0 : tV (eOp oEq (eOp oMod (eVar 1) (eC (.int 4))) (eC (.int 0))) [some (.str x), some (.int c), some (.int a), some (.str sg)] = some (decide (c % 4 = 0)) := by
    refine tV_ev (d := .bl (c % 4 == 0)) ((op_ev hm4 rfl).trans (by simp [oEq, depD, eqD])) ?_
    simp only [truth]; rw [Bool.beq_eq_decide_eq]
  have t1 : tV (eOp oEq (eOp oMod (eVar 1) (eC (.int 4))) (eC (.int 1))) [some (.str x), some (.int c), some (.int a), some (.str sg)] = some (decide (c % 4 = 1)) := by
    refine tV_ev (d := .bl (c % 4 == 1)) ((op_ev hm4 rfl).trans (by simp [oEq, depD, eqD])) ?_
    simp only [truth]; rw [Bool.beq_eq_decide_eq]
  obtain ⟨y1, e1, l1⟩ := slice_ev (lo := pNo) (hi := pAt (eVar 2)) hv0 rfl (pAt_ev hv2) hx
  obtain ⟨y2, e2, l2⟩ := slice_ev (lo := pAt (eOp oAdd (eVar 2) (eC (.int 1)))) (hi := pNo) hv0 (pAt_ev hp1) rfl hx
  obtain ⟨y3, e3, l3⟩ := slice_ev (lo := pAt (eVar 2)) (hi := pAt (eOp oAdd (eVar 2) (eC (.int 1)))) hv0 (pAt_ev hv2) (pAt_ev hp1) hx
  obtain ⟨y4, e4, l4⟩ := slice_ev (lo := pAt (eVar 2)) (hi := pNo) hv0 (pAt_ev hv2) rfl hx
  have hp2 : eOp oSub (eOp oAdd (eVar 2) (eOp oMod (eVar 1) (eC (.int 4)))) (eC (.int 2)) [some (.str x), some (.int c), some (.int a), some (.str sg)] = some (.int (a + c % 4 - 2)) := (op_ev ((op_ev hv2 hm4).trans rfl) rfl).trans rfl
  obtain ⟨y5, e5, l5⟩ := slice_ev (lo := pAt (eOp oSub (eOp oAdd (eVar 2) (eOp oMod (eVar 1) (eC (.int 4)))) (eC (.int 2)))) (hi := pNo) hv0 (pAt_ev hp2) rfl hx
  have start : ∀ r, (sSeq (sIf (tV (eOp oEq (eOp oMod (eVar 1) (eC (.int 4))) (eC (.int 0)))) (sRet (eOp oAdd (eSl (eVar 0) pNo (pAt (eVar 2))) (eSl (eVar 0) (pAt (eOp oAdd (eVar 2) (eC (.int 1)))) pNo))) sNil)
    (sSeq (sIf (tV (eOp oEq (eOp oMod (eVar 1) (eC (.int 4))) (eC (.int 1)))) (sRet (eOp oAdd (eOp oAdd (eSl (eVar 0) pNo (pAt (eVar 2))) (eSl (eVar 0) (pAt (eVar 2)) (pAt (eOp oAdd (eVar 2) (eC (.int 1)))))) (eSl (eVar 0) (pAt (eVar 2)) pNo))) sNil)
    (sRet (eOp oAdd (eOp oAdd (eSl (eVar 0) pNo (pAt (eVar 2))) (eVar 3)) (eSl (eVar 0) (pAt (eOp oSub (eOp oAdd (eVar 2) (eOp oMod (eVar 1) (eC (.int 4)))) (eC (.int 2)))) pNo))))) [some (.str x), some (.int c), some (.int a), some (.str sg)] = some (.rt r) → m__law_spoilt [.str x, .int c] = some r := fun r hr => by
    refine fn_ev rfl ?_
    show b__law_spoilt [some (.str x), some (.int c), none, none] = _
    unfold b__law_spoilt
    exact (seq_nx (asg_ev (d := .int a) hat rfl)).trans ((seq_nx (asg_ev (d := .str sg) hix rfl)).trans hr)
  by_cases h0 : c % 4 = 0
  · obtain ⟨z, ez, lz⟩ := addS_ev e1 e2 (by omega)
    rw [decide_eq_true h0] at t0
    exact ⟨z, start _ (seq_rt ((if_T t0).trans (ret_ev ez))), by omega⟩
  · rw [decide_eq_false h0] at t0
    by_cases h1 : c % 4 = 1
    · obtain ⟨z, ez, lz⟩ := addS_ev e1 e3 (by omega)
      obtain ⟨z', ez', lz'⟩ := addS_ev ez e4 (by omega)
      rw [decide_eq_true h1] at t1
      exact ⟨z', start _ ((seq_nx ((if_F t0).trans rfl)).trans (seq_rt ((if_T t1).trans (ret_ev ez')))), by omega⟩
    · obtain ⟨z, ez, lz⟩ := addS_ev (b := eVar 3) (y := sg) e1 rfl (by omega)
      obtain ⟨z', ez', lz'⟩ := addS_ev ez e5 (by omega)
      rw [decide_eq_false h1] at t1
      exact ⟨z', start _ ((seq_nx ((if_F t0).trans rfl)).trans ((seq_nx ((if_F t1).trans rfl)).trans (ret_ev ez'))), by omega⟩
/-! one cell -/
theorem iff_nx {c : MT} {a : MS} {δ : Ev} (h : c δ = some false) : sIf c a sNil δ = some (.nx δ) := (if_F h).trans rfl
theorem dep_pD (ps : List Pc) : depD (.tup (ps.map pD)) ≤ 30 := by
  have : depDs (ps.map pD) ≤ 1 := depDs_le.mpr fun d hd => by
    obtain ⟨p, _, rfl⟩ := List.mem_map.mp hd
    simp [pD, depD, depDs]
  simp only [depD]
  omega
theorem ne_self {d : D} (h : depD d ≤ 30) : oNe d d = some (.bl false) := by
  unfold oNe
  rw [if_pos ⟨h, h⟩, eqD_refl]
  rfl
theorem most_ev (c : Int) : ∃ M : Int, (M = 9 ∨ M = 999) ∧ ∀ δ : Ev, eVar 1 δ = some (.int c) → eOp oIx (eLst (aCons (eC (.int 9)) (aCons (eC (.int 999)) aNil))) (eOp oMod (eVar 1) (eC (.int 2))) δ = some (.int M) := by
  have h2 : c % 2 = 0 ∨ c % 2 = 1 := by omega
  rcases h2 with h | h
  · exact ⟨9, .inl rfl, fun δ hv => (op_ev (x := .lst [.int 9, .int 999]) (y := .int 0) rfl ((op_ev hv rfl).trans (by simp [oMod, oI, h]))).trans rfl⟩
  · exact ⟨999, .inr rfl, fun δ hv => (op_ev (x := .lst [.int 9, .int 999]) (y := .int 1) rfl ((op_ev hv rfl).trans (by simp [oMod, oI, h]))).trans rfl⟩
theorem r_law1 (s : D) (c : Int) (x2 x3 x4 x5 x6 : Option D) : ∃ y2 y3 y4 y5, b_law_1 [some s, some (.int c), x2, x3, x4, x5, x6] = some (.nx [some s, some (.int c), y2, y3, y4, y5, x6]) := by
  obtain ⟨M, hM, em⟩ := most_ev c
  have h1 : 1 ≤ M := by rcases hM with rfl | rfl <;> decide
  have h9 : M ≤ 999 := by rcases hM with rfl | rfl <;> decide
  have hk := sh_ok c M h1 h9
  generalize hps : shL c M = ps at hk
  have hsh := r_sheet c M h1
  rw [hps] at hsh
  have hl := textL_len hk
  have hread : m_read [.str (S (textL ps))] = some (some (.tup (ps.map pD))) := by
    rw [r_read _ (by rw [len_S]; omega), L_S, read_text hk]
    rfl
  have hok : okOf m_read [.str (S (textL ps))] = some (.tup (ps.map pD)) := by
    unfold okOf
    rw [hread]
    rfl
  obtain ⟨bad, hbad, lbad⟩ := r_spoilt (S (textL ps)) (c / 3) (by rw [len_S]; omega)
  have hfound := r_law_read bad (by omega)
  refine ⟨some (.tup (ps.map pD)), some (.str (S (textL ps))), some (.str bad), some (foundD (readL (L bad))), ?_⟩
  unfold b_law_1
  refine (seq_nx (asg_ev (d := .tup (ps.map pD)) (δ' := [some s, some (.int c), some (.tup (ps.map pD)), x3, x4, x5, x6]) ((call3_ev (x := .int c) (y := .int M) (z := .int 8) rfl (em _ rfl) rfl).trans hsh) rfl)).trans ?_
  refine (seq_nx (asg_ev (d := .str (S (textL ps))) (δ' := [some s, some (.int c), some (.tup (ps.map pD)), some (.str (S (textL ps))), x4, x5, x6]) ((call1_ev (x := .tup (ps.map pD)) rfl).trans (r_text hk)) rfl)).trans ?_
  refine (seq_nx (iff_nx ((tOr_ev (x := false) (y := false) (tV_ev (d := .bl false) ((op_ev (x := .str (S (textL ps))) (y := .str (S (textL ps))) ((call1_ev (x := .tup (ps.map pD)) rfl).trans (r_written hk)) rfl).trans (ne_self (by simp [depD]))) rfl)
    (tV_ev (d := .bl false) ((op_ev (x := .tup (ps.map pD)) (y := .tup (ps.map pD)) ((call1_ev (x := .str (S (textL ps))) rfl).trans hok) rfl).trans (ne_self (dep_pD ps))) rfl)).trans rfl))).trans ?_
  refine (seq_nx (asg_ev (d := .str bad) (δ' := [some s, some (.int c), some (.tup (ps.map pD)), some (.str (S (textL ps))), some (.str bad), x5, x6]) ((call2_ev (x := .str (S (textL ps))) (y := .int (c / 3)) rfl ((op_ev (x := .int c) (y := .int 3) rfl rfl).trans (by simp [oFdiv, oI]))).trans hbad) rfl)).trans ?_
  refine (seq_nx (asg_ev (d := foundD (readL (L bad))) (δ' := [some s, some (.int c), some (.tup (ps.map pD)), some (.str (S (textL ps))), some (.str bad), some (foundD (readL (L bad))), x6]) ((call1_ev (x := .str bad) rfl).trans hfound) rfl)).trans ?_
  refine iff_nx ?_
  unfold tAnd
  cases hr : readL (L bad) with
  | none => rfl
  | some qs =>
    obtain ⟨hq, ht⟩ := read_back hr
    have hql := (okS_all hq).1
    show (tOr _ _ [some s, some (.int c), some (.tup (ps.map pD)), some (.str (S (textL ps))), some (.str bad), some (.tup (qs.map pD)), x6]) = _
    have hs2 : m_is_sheet [.tup (qs.map pD)] = some (.bl true) := by rw [r_is_sheet_D qs (by omega), hq]
    have ht2 : m__law_text [.tup (qs.map pD)] = some (.str bad) := by rw [r_text hq, ht, S_L]
    exact (tOr_ev (x := false) (y := false) (tNot_ev (tV_ev ((call1_ev (x := .tup (qs.map pD)) rfl).trans hs2) rfl)) (tV_ev (d := .bl false) ((op_ev (x := .str bad) (y := .str bad) ((call1_ev (x := .tup (qs.map pD)) rfl).trans ht2) rfl).trans (ne_self (by simp [depD]))) rfl)).trans rfl
/-! the texts that no sheet has -/
def some10 : List Str := ["", " ", "none ", "none none", "0-1@0", "0-1@0+24 ", " 0-1@0+24", "0-1@00+24", "1-1@0+24", "0-1@24+1"]
def more4 : List Str := ["0-1+0@24", "0-1@0+24  0-1@0+24", "0-1@0+24 none", "-1-1@0+24"]
theorem bads_none : ∀ x ∈ some10 ++ more4, readL (L x) = none ∧ (L x).length ≤ 100 := by decide +kernel
theorem r_law2 (s : D) : ∀ (xs : List Str), (∀ x ∈ xs, readL (L x) = none ∧ (L x).length ≤ 100) → ∀ (x1 x2 x3 x4 x5 x6 : Option D), ∃ y4, forM (gN 4) b_law_2 (xs.map D.str) [some s, x1, x2, x3, x4, x5, x6] = some (.nx [some s, x1, x2, x3, y4, x5, x6]) := by
  intro xs h x1 x2 x3 x4 x5 x6
  obtain ⟨δ', e1, y4, rfl⟩ := for_ev (g := gN 4) (body := b_law_2) (fun δ => ∃ x4, δ = [some s, x1, x2, x3, x4, x5, x6]) (xs.map D.str) _ ⟨x4, rfl⟩ fun d hd δ hP => by
    obtain ⟨z, rfl⟩ := hP
    obtain ⟨x, hx, rfl⟩ := List.mem_map.mp hd
    refine ⟨[some s, x1, x2, x3, some (.str x), x5, x6], _, rfl, .inl ?_, some (.str x), rfl⟩
    unfold b_law_2
    have hn := (h x hx).1
    have hz := (h x hx).2
    rw [len_L] at hz
    refine iff_nx (tV_ev (d := .bl false) ((un_ev ((call1_ev (x := .str x) rfl).trans (r_law_read x (by omega)))).trans ?_) rfl)
    rw [hn]
    rfl
  exact ⟨y4, e1⟩
theorem last_text : readL (L ("0-999@23+24" : Str)) = some [⟨0, 999, 23, 24⟩] ∧ (L ("0-999@23+24" : Str)).length = 11 := by decide +kernel
theorem r_law (ns : List Int) : m_law [.lst (ns.map .int)] = some (.bl true) := by
  refine fn_ev rfl ?_
  show b_law [some (.lst (ns.map .int)), none, none, none, none, none, none] = _
  unfold b_law
  obtain ⟨δ', e1, x1, x2, x3, x4, x5, rfl⟩ := for_ev (g := gN 1) (body := b_law_1) (fun δ => ∃ x1 x2 x3 x4 x5, δ = [some (.lst (ns.map .int)), x1, x2, x3, x4, x5, none]) ((ns.map D.int).take 8) [some (.lst (ns.map .int)), none, none, none, none, none, none] ⟨_, _, _, _, _, rfl⟩ fun x hx δ hP => by
    obtain ⟨z1, z2, z3, z4, z5, rfl⟩ := hP
    obtain ⟨c, _, rfl⟩ := List.mem_map.mp (List.mem_of_mem_take hx)
    obtain ⟨w2, w3, w4, w5, h1⟩ := r_law1 (.lst (ns.map .int)) c z2 z3 z4 z5 none
    exact ⟨[some (.lst (ns.map .int)), some (.int c), z2, z3, z4, z5, none], _, rfl, .inl h1, _, _, _, _, _, rfl⟩
  refine (seq_nx ((sfor_ev (xs := (ns.map D.int).take 8) rfl).trans e1)).trans ?_
  refine (seq_nx (asg_ev (d := .lst (some10.map D.str)) rfl rfl)).trans ?_
  obtain ⟨y4, e2⟩ := r_law2 (.lst (ns.map .int)) (some10 ++ more4) bads_none x1 x2 x3 x4 x5 (some (.lst (some10.map D.str)))
  refine (seq_nx ((sfor_ev (xs := (some10 ++ more4).map D.str) ?_).trans e2)).trans ?_
  · unfold iSeq
    rw [op_ev (x := .lst (some10.map D.str)) (y := .lst (more4.map D.str)) rfl rfl]
    rw [List.map_append]
    show (if (some10.map D.str).length + (more4.map D.str).length ≤ 16777216 then some (D.lst (some10.map D.str ++ more4.map D.str)) else none).bind _ = _
    rw [if_pos (by simp [some10, more4])]
    rfl
  refine ret_ev ?_
  have h1 : okOf m_read [.str "none"] = some (.tup []) := by
    have hl : (L ("none" : Str)).length = 4 := by decide +kernel
    unfold okOf
    rw [r_read _ (by rw [← len_L, hl]; decide), lit_none, L_S]
    rfl
  have h2 : okOf m_read [.str "0-999@23+24"] = some (.tup [.tup [.int 0, .int 999, .int 23, .int 24]]) := by
    unfold okOf
    rw [r_read _ (by rw [← len_L, last_text.2]; decide), last_text.1]
    rfl
  unfold eAnd
  rw [op_ev ((call1_ev (x := .str "none") rfl).trans h1) rfl, op_ev ((call1_ev (x := .str "0-999@23+24") rfl).trans h2) rfl]
  rfl
end DL.K02

set_option Elab.async false
set_option linter.all false
set_option maxRecDepth 100000
namespace DL.K02
open PySem PySem.Spec PyProof.Rows L2 DL
def top (i : Nat) : Stmt := PySem.Challenge.pw_ringlayers_k02_whole_texts.main.body.getD i (.Pass ⟨0, 0, 0, 0⟩)
abbrev s__law_mix : Stmt := top 29
abbrev s__law_piece : Stmt := top 30
abbrev s__law_sheet : Stmt := top 31
abbrev s__law_text : Stmt := top 32
abbrev s__law_spoilt : Stmt := top 33
abbrev s_is_tuple_of : Stmt := top 6
abbrev s_is_ring : Stmt := top 13
abbrev s_is_arc : Stmt := top 14
abbrev s_is_whole : Stmt := top 5
abbrev s_is_piece : Stmt := top 12
abbrev s_is_sheet : Stmt := top 11
abbrev s_is_number : Stmt := top 26
abbrev s_read_number : Stmt := top 25
abbrev s_parts_of_piece : Stmt := top 24
abbrev s_read_piece : Stmt := top 23
abbrev s_read : Stmt := top 22
abbrev s__law_read : Stmt := top 34
abbrev s_written_piece : Stmt := top 18
abbrev s_written : Stmt := top 17
abbrev s_law : Stmt := top 35
structure Txt (K : PySem.W.Frag) (mg : Str → Option Value) where
  f__law_mix : Addr
  fd__law_mix : FuncData
  F__law_mix : Fun K "_law_mix" "_law_mix" s__law_mix f__law_mix fd__law_mix
  b__law_mix : Binds K fd__law_mix ["_law_cell_here", "_law_prime", "_law_many"] []
  g__law_mix : mg "_law_mix" = some (.ref f__law_mix)
  f__law_piece : Addr
  fd__law_piece : FuncData
  F__law_piece : Fun K "_law_piece" "_law_piece" s__law_piece f__law_piece fd__law_piece
  b__law_piece : Binds K fd__law_piece ["_law_cell_here", "_law_most"] []
  g__law_piece : mg "_law_piece" = some (.ref f__law_piece)
  f__law_sheet : Addr
  fd__law_sheet : FuncData
  F__law_sheet : Fun K "_law_sheet" "_law_sheet" s__law_sheet f__law_sheet fd__law_sheet
  b__law_sheet : Binds K fd__law_sheet ["_law_cell_here", "_law_most", "_law_many"] []
  g__law_sheet : mg "_law_sheet" = some (.ref f__law_sheet)
  f__law_text : Addr
  fd__law_text : FuncData
  F__law_text : Fun K "_law_text" "_law_text" s__law_text f__law_text fd__law_text
  b__law_text : Binds K fd__law_text ["_law_sheet_here"] []
  g__law_text : mg "_law_text" = some (.ref f__law_text)
  f__law_spoilt : Addr
  fd__law_spoilt : FuncData
  F__law_spoilt : Fun K "_law_spoilt" "_law_spoilt" s__law_spoilt f__law_spoilt fd__law_spoilt
  b__law_spoilt : Binds K fd__law_spoilt ["_law_text_here", "_law_cell_here"] []
  g__law_spoilt : mg "_law_spoilt" = some (.ref f__law_spoilt)
  f_is_tuple_of : Addr
  fd_is_tuple_of : FuncData
  F_is_tuple_of : Fun K "is_tuple_of" "is_tuple_of" s_is_tuple_of f_is_tuple_of fd_is_tuple_of
  b_is_tuple_of : Binds K fd_is_tuple_of ["length", "thing"] []
  g_is_tuple_of : mg "is_tuple_of" = some (.ref f_is_tuple_of)
  f_is_ring : Addr
  fd_is_ring : FuncData
  F_is_ring : Fun K "is_ring" "is_ring" s_is_ring f_is_ring fd_is_ring
  b_is_ring : Binds K fd_is_ring ["inner", "outer"] []
  g_is_ring : mg "is_ring" = some (.ref f_is_ring)
  f_is_arc : Addr
  fd_is_arc : FuncData
  F_is_arc : Fun K "is_arc" "is_arc" s_is_arc f_is_arc fd_is_arc
  b_is_arc : Binds K fd_is_arc ["begin", "wide"] []
  g_is_arc : mg "is_arc" = some (.ref f_is_arc)
  f_is_whole : Addr
  fd_is_whole : FuncData
  F_is_whole : Fun K "is_whole" "is_whole" s_is_whole f_is_whole fd_is_whole
  b_is_whole : Binds K fd_is_whole ["thing"] []
  g_is_whole : mg "is_whole" = some (.ref f_is_whole)
  f_is_piece : Addr
  fd_is_piece : FuncData
  F_is_piece : Fun K "is_piece" "is_piece" s_is_piece f_is_piece fd_is_piece
  b_is_piece : Binds K fd_is_piece ["thing"] []
  g_is_piece : mg "is_piece" = some (.ref f_is_piece)
  f_is_sheet : Addr
  fd_is_sheet : FuncData
  F_is_sheet : Fun K "is_sheet" "is_sheet" s_is_sheet f_is_sheet fd_is_sheet
  b_is_sheet : Binds K fd_is_sheet ["thing"] []
  g_is_sheet : mg "is_sheet" = some (.ref f_is_sheet)
  f_is_number : Addr
  fd_is_number : FuncData
  F_is_number : Fun K "is_number" "is_number" s_is_number f_is_number fd_is_number
  b_is_number : Binds K fd_is_number ["text"] []
  g_is_number : mg "is_number" = some (.ref f_is_number)
  f_read_number : Addr
  fd_read_number : FuncData
  F_read_number : Fun K "read_number" "read_number" s_read_number f_read_number fd_read_number
  b_read_number : Binds K fd_read_number ["text"] []
  g_read_number : mg "read_number" = some (.ref f_read_number)
  f_parts_of_piece : Addr
  fd_parts_of_piece : FuncData
  F_parts_of_piece : Fun K "parts_of_piece" "parts_of_piece" s_parts_of_piece f_parts_of_piece fd_parts_of_piece
  b_parts_of_piece : Binds K fd_parts_of_piece ["text"] []
  g_parts_of_piece : mg "parts_of_piece" = some (.ref f_parts_of_piece)
  f_read_piece : Addr
  fd_read_piece : FuncData
  F_read_piece : Fun K "read_piece" "read_piece" s_read_piece f_read_piece fd_read_piece
  b_read_piece : Binds K fd_read_piece ["text"] []
  g_read_piece : mg "read_piece" = some (.ref f_read_piece)
  f_read : Addr
  fd_read : FuncData
  F_read : Fun K "read" "read" s_read f_read fd_read
  b_read : Binds K fd_read ["text"] []
  g_read : mg "read" = some (.ref f_read)
  f__law_read : Addr
  fd__law_read : FuncData
  F__law_read : Fun K "_law_read" "_law_read" s__law_read f__law_read fd__law_read
  b__law_read : Binds K fd__law_read ["_law_text_here"] []
  g__law_read : mg "_law_read" = some (.ref f__law_read)
  f_written_piece : Addr
  fd_written_piece : FuncData
  F_written_piece : Fun K "written_piece" "written_piece" s_written_piece f_written_piece fd_written_piece
  b_written_piece : Binds K fd_written_piece ["piece"] []
  g_written_piece : mg "written_piece" = some (.ref f_written_piece)
  f_written : Addr
  fd_written : FuncData
  F_written : Fun K "written" "written" s_written f_written fd_written
  b_written : Binds K fd_written ["sheet"] []
  g_written : mg "written" = some (.ref f_written)
  f_law : Addr
  fd_law : FuncData
  F_law : Fun K "law" "law" s_law f_law fd_law
  b_law : Binds K fd_law ["_law_script"] []
  g_law : mg "law" = some (.ref f_law)
  k_WHOLE_TURN : Tok
  c_WHOLE_TURN : mg "WHOLE_TURN" = some (.int 24 k_WHOLE_TURN)
  k_MOST_OUTER : Tok
  c_MOST_OUTER : mg "MOST_OUTER" = some (.int 999 k_MOST_OUTER)
  k_MOST_PIECES : Tok
  c_MOST_PIECES : mg "MOST_PIECES" = some (.int 8 k_MOST_PIECES)
  k_NO_PIECES : Tok
  c_NO_PIECES : mg "NO_PIECES" = some (.str "none" k_NO_PIECES)
  k_FIGURES : Tok
  c_FIGURES : mg "FIGURES" = some (.str "0123456789" k_FIGURES)
  ad_SIGNS_BETWEEN : Addr
  d_SIGNS_BETWEEN : Option Addr
  n_SIGNS_BETWEEN : Nat
  sl_SIGNS_BETWEEN : Array (Option Value)
  t0_SIGNS_BETWEEN : Tok
  t1_SIGNS_BETWEEN : Tok
  t2_SIGNS_BETWEEN : Tok
  c_SIGNS_BETWEEN : mg "SIGNS_BETWEEN" = some (.ref ad_SIGNS_BETWEEN)
  l_SIGNS_BETWEEN : K.lookup ad_SIGNS_BETWEEN = some ⟨.type "tuple", d_SIGNS_BETWEEN, .seq #[.str "-" t0_SIGNS_BETWEEN, .str "@" t1_SIGNS_BETWEEN, .str "+" t2_SIGNS_BETWEEN] n_SIGNS_BETWEEN, sl_SIGNS_BETWEEN⟩
  C_RingError : Addr
  g_RingError : mg "RingError" = some (.ref C_RingError)
  C_NoText : Addr
  g_NoText : mg "NoText" = some (.ref C_NoText)
  C_NoPiece : Addr
  g_NoPiece : mg "NoPiece" = some (.ref C_NoPiece)
  q_NoText : PySem.W.excIn K C_NoText [.type "ValueError", .type "Exception", .type "BaseException", .type "object"] "ValueError.__new__" = true
  x_NoText : PySem.W.exmOne K (.ref C_NoText) (.ref C_RingError) = some true
  i_NoText : PySem.W.kitOne K (.ref C_NoText) (.ref C_NoPiece) = some false
  e_NoText : PySem.W.kitOne K (.ref C_NoText) (.type "ValueError") = some true
  k1_NoText : PySem.W.findIn K (.ref C_NoText) "__getattribute__" = some (some (.builtin "BaseException.__getattribute__"))
  k7_NoText : PySem.W.findIn K (.ref C_NoText) "__getattr__" = some none
  k8_NoText : PySem.W.mroIn K C_NoText (.type "BaseException") = some true
  k2_NoText : PySem.W.hasDictIn K C_NoText = true
  k3_NoText : PySem.W.findIn K (.ref C_NoText) "__class__" = some (some (.builtin "object.__class__"))
  k4_NoText : PySem.W.specialIn K (.builtin "object.__class__") "__get__" = some (some (.builtin "getset_descriptor.__get__"))
  k5_NoText : PySem.W.takesIn K (.builtin "object.__class__") = some true
  k6_NoText : PySem.W.mroIn K C_NoText (.type "object") = some true
  z_ValueError : mg "ValueError" = none
  z_all : mg "all" = none
  z_bool : mg "bool" = none
  z_int : mg "int" = none
  z_isinstance : mg "isinstance" = none
  z_len : mg "len" = none
  z_range : mg "range" = none
  z_str : mg "str" = none
  z_tuple : mg "tuple" = none
theorem Txt.v_SIGNS_BETWEEN {K : PySem.W.Frag} {mg : Str → Option Value} (T : Txt K mg) : Vals (List.map V.str ["-", "@", "+"]) (Array.toList #[Value.str "-" T.t0_SIGNS_BETWEEN, Value.str "@" T.t1_SIGNS_BETWEEN, Value.str "+" T.t2_SIGNS_BETWEEN]) := (.cons (rel_str _ _) (.cons (rel_str _ _) (.cons (rel_str _ _) .nil)))
theorem Txt.k_NoText {K : PySem.W.Frag} {mg : Str → Option Value} (T : Txt K mg) : ClsOk K T.C_NoText := ⟨T.k1_NoText, T.k7_NoText, T.k8_NoText, T.k2_NoText, T.k3_NoText, T.k4_NoText, T.k5_NoText, T.k6_NoText⟩
section
variable {P : Program} {w : World} {K : PySem.W.Frag} {mg : Str → Option Value} {base : Heap}
theorem sc__law_mix : FnScope ["_law_cell_here", "_law_prime", "_law_many"] ["_law_cell_here", "_law_prime", "_law_many"] (defScope s__law_mix) := ⟨rfl, rfl, rfl, by decide +kernel, rfl, by decide +kernel, by decide +kernel⟩
theorem ok__law_mix (T : Txt K mg) : FnOk P w K mg base CX0 1 T.f__law_mix T.fd__law_mix ["_law_cell_here", "_law_prime", "_law_many"] (spD K m__law_mix) :=
  fn_okM (k := 0) (kk := 3) (m := b__law_mix) (by decide) T.F__law_mix sc__law_mix rfl fun cdv A outer s H E hr =>
    have hu := hr.units
    (dss_one (ds_ret (de_op od_mod (de_op od_mod (de_op od_mul (de_var 0 (pv 0)) de_int) (de_var 1 (pv 1))) (de_var 2 (pv 2)))))
theorem sc__law_piece : FnScope ["_law_cell_here", "_law_most", "_law_inner", "_law_outer", "_law_wide"] ["_law_cell_here", "_law_most"] (defScope s__law_piece) := ⟨rfl, rfl, rfl, by decide +kernel, rfl, by decide +kernel, by decide +kernel⟩
theorem ok__law_piece (T : Txt K mg) : FnOk P w K mg base CX0 2 T.f__law_piece T.fd__law_piece ["_law_cell_here", "_law_most"] (spD K m__law_piece) :=
  fn_okM (k := 1) (kk := 5) (m := b__law_piece) (by decide) T.F__law_piece sc__law_piece rfl fun cdv A outer s H E hr =>
    have hu := hr.units
    (dss_cons (ds_asg (de_call (ok__law_mix T) (hr.mono (by decide)) rfl T.g__law_mix T.F__law_mix.kp T.b__law_mix (da_cons (de_var 0 (pv 0)) (da_cons de_int (da_cons (de_var 1 (pv 1)) da_nil)))) (dg_name (pg_name (i := 2) sc__law_piece.nd rfl (Or.inl rfl))))
    (dss_cons (ds_asg (de_op od_add (de_op od_add (de_var 2 (pv 2)) de_int) (de_call (ok__law_mix T) (hr.mono (by decide)) rfl T.g__law_mix T.F__law_mix.kp T.b__law_mix (da_cons (de_var 0 (pv 0)) (da_cons de_int (da_cons (de_op od_sub (de_var 1 (pv 1)) (de_var 2 (pv 2))) da_nil))))) (dg_name (pg_name (i := 3) sc__law_piece.nd rfl (Or.inl rfl))))
    (dss_cons (ds_asg (de_op od_add de_int (de_call (ok__law_mix T) (hr.mono (by decide)) rfl T.g__law_mix T.F__law_mix.kp T.b__law_mix (da_cons (de_var 0 (pv 0)) (da_cons de_int (da_cons de_int da_nil))))) (dg_name (pg_name (i := 4) sc__law_piece.nd rfl (Or.inl rfl))))
    (dss_cons (ds_if (dt_cmp (od_eq hu) (de_op od_mod (de_var 0 (pv 0)) de_int) de_int (nomark _) bl_eq) (dss_one (ds_asg de_int (dg_name (pg_name (i := 4) sc__law_piece.nd rfl (Or.inl rfl))))) dss_nil)
    (dss_one (ds_ret (de_tup (da_cons (de_var 2 (pv 2)) (da_cons (de_var 3 (pv 3)) (da_cons (de_call (ok__law_mix T) (hr.mono (by decide)) rfl T.g__law_mix T.F__law_mix.kp T.b__law_mix (da_cons (de_var 0 (pv 0)) (da_cons de_int (da_cons de_int da_nil)))) (da_cons (de_var 4 (pv 4)) da_nil)))) (by decide))))))))
theorem sc__law_sheet : FnScope ["_law_cell_here", "_law_most", "_law_many"] ["_law_cell_here", "_law_most", "_law_many"] (defScope s__law_sheet) := ⟨rfl, rfl, rfl, by decide +kernel, rfl, by decide +kernel, by decide +kernel⟩
theorem ok__law_sheet (T : Txt K mg) : FnOk P w K mg base CX0 3 T.f__law_sheet T.fd__law_sheet ["_law_cell_here", "_law_most", "_law_many"] (spD K m__law_sheet) :=
  fn_okM (k := 2) (kk := 3) (m := b__law_sheet) (by decide) T.F__law_sheet sc__law_sheet rfl fun cdv A outer s H E hr =>
    have hu := hr.units
    (dss_one (ds_ret (de_callTy cd_tuple rfl T.z_tuple rfl (da_cons (de_comp (scX := defScope s__law_sheet) (NX := ["_law_cell_here", "_law_most", "_law_many"]) (N := ["_law_k", "_law_most", "_law_cell_here"]) (k := 1) (fv := [1, 0]) rfl ⟨rfl, by decide +kernel, by decide +kernel, by decide +kernel, rfl, by decide +kernel, by decide +kernel⟩ rfl rfl (di_range rfl T.z_range (de_call (ok__law_mix T) (hr.mono (by decide)) rfl T.g__law_mix T.F__law_mix.kp T.b__law_mix (da_cons (de_var 0 (pv 0)) (da_cons de_int (da_cons (de_op od_add (de_var 2 (pv 2)) de_int) da_nil))))) (below_name (by decide)) (fun _ _ _ _ => ⟨(dg_name (pg_name (i := 0) (show List.Nodup (α := Str) ["_law_k", "_law_most", "_law_cell_here"] by decide +kernel) rfl (Or.inl rfl))), rfl, (de_call (ok__law_piece T) (hr.mono (by decide)) rfl T.g__law_piece T.F__law_piece.kp T.b__law_piece (da_cons (de_op od_add (de_var 2 (pv 2)) (de_op od_mul de_int (de_var 0 (pv 0)))) (da_cons (de_var 1 (pv 1)) da_nil)))⟩)) da_nil))))
theorem sc__law_text : FnScope ["_law_sheet_here", "_law_words", "_law_inner", "_law_outer", "_law_begin", "_law_wide"] ["_law_sheet_here"] (defScope s__law_text) := ⟨rfl, rfl, rfl, by decide +kernel, rfl, by decide +kernel, by decide +kernel⟩
theorem ok__law_text (T : Txt K mg) : FnOk P w K mg base CX0 1 T.f__law_text T.fd__law_text ["_law_sheet_here"] (spD K m__law_text) :=
  fn_okM (k := 0) (kk := 12) (m := b__law_text) (by decide) T.F__law_text sc__law_text rfl fun cdv A outer s H E hr =>
    have hu := hr.units
    (dss_cons (ds_own (n := 6) (i := 1) rfl (by decide) (df_lst da_nil (by decide)) (pg_name (i := 1) sc__law_text.nd rfl (Or.inl rfl)))
    (dss_cons (ds_for PassesOwn.never rfl (di_seq (de_var 0 (pv 0))) (dg_tup rfl (dgs_cons (dg_name (pg_name (i := 2) sc__law_text.nd rfl (Or.inl rfl))) (dgs_cons (dg_name (pg_name (i := 3) sc__law_text.nd rfl (Or.inl rfl))) (dgs_cons (dg_name (pg_name (i := 4) sc__law_text.nd rfl (Or.inl rfl))) (dgs_cons (dg_name (pg_name (i := 5) sc__law_text.nd rfl (Or.inl rfl))) dgs_nil)))) (gsCons_len (gsCons_len (gsCons_len (gsCons_len gsNil_len)))))
    (dss_one (ds_app (n := 6) (i := 1) rfl (by decide) rfl (pv 1) (de_op od_add (de_op od_add (de_op od_add (de_op od_add (de_op od_add (de_op od_add (de_callTy cd_str rfl T.z_str rfl (da_cons (de_var 2 (pv 2)) da_nil)) de_str) (de_callTy cd_str rfl T.z_str rfl (da_cons (de_var 3 (pv 3)) da_nil))) de_str) (de_callTy cd_str rfl T.z_str rfl (da_cons (de_var 4 (pv 4)) da_nil))) de_str) (de_callTy cd_str rfl T.z_str rfl (da_cons (de_var 5 (pv 5)) da_nil))))))
    (dss_frz (n := 6) (is := [1]) rfl (by decide) rfl (dss_cons (ds_if (dt_val (de_var 1 (pv 1))) (dss_one (ds_ret (de_join de_str (de_var 1 (pv 1))))) dss_nil)
    (dss_one (ds_ret de_str))))))
theorem sc__law_spoilt : FnScope ["_law_text_here", "_law_cell_here", "_law_at", "_law_sign"] ["_law_text_here", "_law_cell_here"] (defScope s__law_spoilt) := ⟨rfl, rfl, rfl, by decide +kernel, rfl, by decide +kernel, by decide +kernel⟩
theorem ok__law_spoilt (T : Txt K mg) : FnOk P w K mg base CX0 1 T.f__law_spoilt T.fd__law_spoilt ["_law_text_here", "_law_cell_here"] (spD K m__law_spoilt) :=
  fn_okM (k := 0) (kk := 4) (m := b__law_spoilt) (by decide) T.F__law_spoilt sc__law_spoilt rfl fun cdv A outer s H E hr =>
    have hu := hr.units
    (dss_cons (ds_asg (de_op od_mod (de_op od_fdiv (de_var 1 (pv 1)) de_int) (de_op od_add (de_callB cd_len rfl T.z_len PySem.boot_len (da_cons (de_var 0 (pv 0)) da_nil)) de_int)) (dg_name (pg_name (i := 2) sc__law_spoilt.nd rfl (Or.inl rfl))))
    (dss_cons (ds_asg (de_ix id_ix de_str (de_op od_mod (de_op od_fdiv (de_var 1 (pv 1)) de_int) de_int) (fun _ _ => rfl)) (dg_name (pg_name (i := 3) sc__law_spoilt.nd rfl (Or.inl rfl))))
    (dss_cons (ds_if (dt_cmp (od_eq hu) (de_op od_mod (de_var 1 (pv 1)) de_int) de_int (nomark _) bl_eq) (dss_one (ds_ret (de_op od_add (de_sl (de_var 0 (pv 0)) dpo_no (dpo_at (de_var 2 (pv 2)))) (de_sl (de_var 0 (pv 0)) (dpo_at (de_op od_add (de_var 2 (pv 2)) de_int)) dpo_no)))) dss_nil)
    (dss_cons (ds_if (dt_cmp (od_eq hu) (de_op od_mod (de_var 1 (pv 1)) de_int) de_int (nomark _) bl_eq) (dss_one (ds_ret (de_op od_add (de_op od_add (de_sl (de_var 0 (pv 0)) dpo_no (dpo_at (de_var 2 (pv 2)))) (de_sl (de_var 0 (pv 0)) (dpo_at (de_var 2 (pv 2))) (dpo_at (de_op od_add (de_var 2 (pv 2)) de_int)))) (de_sl (de_var 0 (pv 0)) (dpo_at (de_var 2 (pv 2))) dpo_no)))) dss_nil)
    (dss_one (ds_ret (de_op od_add (de_op od_add (de_sl (de_var 0 (pv 0)) dpo_no (dpo_at (de_var 2 (pv 2)))) (de_var 3 (pv 3))) (de_sl (de_var 0 (pv 0)) (dpo_at (de_op od_sub (de_op od_add (de_var 2 (pv 2)) (de_op od_mod (de_var 1 (pv 1)) de_int)) de_int)) dpo_no))))))))
theorem sc_is_tuple_of : FnScope ["length", "thing"] ["length", "thing"] (defScope s_is_tuple_of) := ⟨rfl, rfl, rfl, by decide +kernel, rfl, by decide +kernel, by decide +kernel⟩
theorem ok_is_tuple_of (T : Txt K mg) : FnOk P w K mg base CX0 1 T.f_is_tuple_of T.fd_is_tuple_of ["length", "thing"] (spD K m_is_tuple_of) :=
  fn_okM (k := 0) (kk := 2) (m := b_is_tuple_of) (by decide) T.F_is_tuple_of sc_is_tuple_of rfl fun cdv A outer s H E hr =>
    have hu := hr.units
    (dss_one (ds_ret (de_and (de_isi .tuple rfl T.z_isinstance rfl T.z_tuple rfl (de_var 1 (pv 1))) (de_one (de_cmp (od_eq hu) (de_callB cd_len rfl T.z_len PySem.boot_len (da_cons (de_var 1 (pv 1)) da_nil)) (de_var 0 (pv 0)) (nomark _))))))
theorem sc_is_ring : FnScope ["inner", "outer"] ["inner", "outer"] (defScope s_is_ring) := ⟨rfl, rfl, rfl, by decide +kernel, rfl, by decide +kernel, by decide +kernel⟩
theorem ok_is_ring (T : Txt K mg) : FnOk P w K mg base CX0 1 T.f_is_ring T.fd_is_ring ["inner", "outer"] (spD K m_is_ring) :=
  fn_okM (k := 0) (kk := 2) (m := b_is_ring) (by decide) T.F_is_ring sc_is_ring rfl fun cdv A outer s H E hr =>
    have hu := hr.units
    (dss_one (ds_ret (de_chain3 od_le od_lt od_le bl_le bl_lt bl_le de_int (de_var 0 (pv 0)) (de_var 1 (pv 1)) (de_glob rfl T.c_MOST_OUTER))))
theorem sc_is_arc : FnScope ["begin", "wide"] ["begin", "wide"] (defScope s_is_arc) := ⟨rfl, rfl, rfl, by decide +kernel, rfl, by decide +kernel, by decide +kernel⟩
theorem ok_is_arc (T : Txt K mg) : FnOk P w K mg base CX0 1 T.f_is_arc T.fd_is_arc ["begin", "wide"] (spD K m_is_arc) :=
  fn_okM (k := 0) (kk := 2) (m := b_is_arc) (by decide) T.F_is_arc sc_is_arc rfl fun cdv A outer s H E hr =>
    have hu := hr.units
    (dss_one (ds_ret (de_and (de_chain2 od_le od_lt bl_le bl_lt de_int (de_var 0 (pv 0)) (de_glob rfl T.c_WHOLE_TURN)) (de_one (de_chain2 od_le od_le bl_le bl_le de_int (de_var 1 (pv 1)) (de_glob rfl T.c_WHOLE_TURN))))))
theorem sc_is_whole : FnScope ["thing"] ["thing"] (defScope s_is_whole) := ⟨rfl, rfl, rfl, by decide +kernel, rfl, by decide +kernel, by decide +kernel⟩
theorem ok_is_whole (T : Txt K mg) : FnOk P w K mg base CX0 1 T.f_is_whole T.fd_is_whole ["thing"] (spD K m_is_whole) :=
  fn_okM (k := 0) (kk := 1) (m := b_is_whole) (by decide) T.F_is_whole sc_is_whole rfl fun cdv A outer s H E hr =>
    have hu := hr.units
    (dss_one (ds_ret (de_and (de_isi .int rfl T.z_isinstance rfl T.z_int rfl (de_var 0 (pv 0))) (de_one (de_not (de_isi .bool rfl T.z_isinstance rfl T.z_bool rfl (de_var 0 (pv 0))))))))
theorem sc_is_piece : FnScope ["thing"] ["thing"] (defScope s_is_piece) := ⟨rfl, rfl, rfl, by decide +kernel, rfl, by decide +kernel, by decide +kernel⟩
theorem ok_is_piece (T : Txt K mg) : FnOk P w K mg base CX0 2 T.f_is_piece T.fd_is_piece ["thing"] (spD K m_is_piece) :=
  fn_okM (k := 1) (kk := 1) (m := b_is_piece) (by decide) T.F_is_piece sc_is_piece rfl fun cdv A outer s H E hr =>
    have hu := hr.units
    (dss_cons (ds_if (dt_not (dt_val (de_call (ok_is_tuple_of T) (hr.mono (by decide)) rfl T.g_is_tuple_of T.F_is_tuple_of.kp T.b_is_tuple_of (da_cons de_int (da_cons (de_var 0 (pv 0)) da_nil))))) (dss_one (ds_ret de_bl)) dss_nil)
    (dss_cons (ds_if (dt_not (dt_val (de_callB (cd_all rfl) rfl T.z_all rfl (da_cons (de_comp (scX := defScope s_is_piece) (NX := ["thing"]) (N := ["part"]) (k := 1) (fv := []) rfl ⟨rfl, by decide +kernel, by decide +kernel, by decide +kernel, rfl, by decide +kernel, by decide +kernel⟩ rfl rfl (di_seq (de_var 0 (pv 0))) (below_name (by decide)) (fun _ _ _ _ => ⟨(dg_name (pg_name (i := 0) (show List.Nodup (α := Str) ["part"] by decide +kernel) rfl (Or.inl rfl))), rfl, (de_call (ok_is_whole T) (hr.mono (by decide)) rfl T.g_is_whole T.F_is_whole.kp T.b_is_whole (da_cons (de_var 0 (pv 0)) da_nil))⟩)) da_nil)))) (dss_one (ds_ret de_bl)) dss_nil)
    (dss_one (ds_ret (de_and (de_call (ok_is_ring T) (hr.mono (by decide)) rfl T.g_is_ring T.F_is_ring.kp T.b_is_ring (da_cons (de_ix id_ix (de_var 0 (pv 0)) de_int (fun _ _ => rfl)) (da_cons (de_ix id_ix (de_var 0 (pv 0)) de_int (fun _ _ => rfl)) da_nil))) (de_one (de_call (ok_is_arc T) (hr.mono (by decide)) rfl T.g_is_arc T.F_is_arc.kp T.b_is_arc (da_cons (de_ix id_ix (de_var 0 (pv 0)) de_int (fun _ _ => rfl)) (da_cons (de_ix id_ix (de_var 0 (pv 0)) de_int (fun _ _ => rfl)) da_nil)))))))))
theorem sc_is_sheet : FnScope ["thing"] ["thing"] (defScope s_is_sheet) := ⟨rfl, rfl, rfl, by decide +kernel, rfl, by decide +kernel, by decide +kernel⟩
theorem ok_is_sheet (T : Txt K mg) : FnOk P w K mg base CX0 3 T.f_is_sheet T.fd_is_sheet ["thing"] (spD K m_is_sheet) :=
  fn_okM (k := 2) (kk := 1) (m := b_is_sheet) (by decide) T.F_is_sheet sc_is_sheet rfl fun cdv A outer s H E hr =>
    have hu := hr.units
    (dss_cons (ds_if (DW.dt (dw_or (dt_not (dt_val (de_isi .tuple rfl T.z_isinstance rfl T.z_tuple rfl (de_var 0 (pv 0))))) (dw_or1 (dt_cmp od_gt (de_callB cd_len rfl T.z_len PySem.boot_len (da_cons (de_var 0 (pv 0)) da_nil)) (de_glob rfl T.c_MOST_PIECES) (nomark _) bl_gt)))) (dss_one (ds_ret de_bl)) dss_nil)
    (dss_one (ds_ret (de_callB (cd_all rfl) rfl T.z_all rfl (da_cons (de_comp (scX := defScope s_is_sheet) (NX := ["thing"]) (N := ["part"]) (k := 1) (fv := []) rfl ⟨rfl, by decide +kernel, by decide +kernel, by decide +kernel, rfl, by decide +kernel, by decide +kernel⟩ rfl rfl (di_seq (de_var 0 (pv 0))) (below_name (by decide)) (fun _ _ _ _ => ⟨(dg_name (pg_name (i := 0) (show List.Nodup (α := Str) ["part"] by decide +kernel) rfl (Or.inl rfl))), rfl, (de_call (ok_is_piece T) (hr.mono (by decide)) rfl T.g_is_piece T.F_is_piece.kp T.b_is_piece (da_cons (de_var 0 (pv 0)) da_nil))⟩)) da_nil)))))
theorem sc_is_number : FnScope ["text"] ["text"] (defScope s_is_number) := ⟨rfl, rfl, rfl, by decide +kernel, rfl, by decide +kernel, by decide +kernel⟩
theorem ok_is_number (T : Txt K mg) : FnOk P w K mg base CX0 1 T.f_is_number T.fd_is_number ["text"] (spD K m_is_number) :=
  fn_okM (k := 0) (kk := 1) (m := b_is_number) (by decide) T.F_is_number sc_is_number rfl fun cdv A outer s H E hr =>
    have hu := hr.units
    (dss_cons (ds_if (DW.dt (dw_or (dt_cmp (od_eq hu) (de_var 0 (pv 0)) de_str (nomark _) bl_eq) (dw_or1 (dt_cmp od_gt (de_callB cd_len rfl T.z_len PySem.boot_len (da_cons (de_var 0 (pv 0)) da_nil)) (de_callB cd_len rfl T.z_len PySem.boot_len (da_cons (de_callTy cd_str rfl T.z_str rfl (da_cons (de_glob rfl T.c_MOST_OUTER) da_nil)) da_nil)) (nomark _) bl_gt)))) (dss_one (ds_ret de_bl)) dss_nil)
    (dss_cons (ds_if (DW.dt (dw_and (dt_cmp (od_eq hu) (de_ix id_ix (de_var 0 (pv 0)) de_int (fun _ _ => rfl)) de_str (nomark _) bl_eq) (dw_and1 (dt_cmp (od_ne hu) (de_var 0 (pv 0)) de_str (nomark _) bl_ne)))) (dss_one (ds_ret de_bl)) dss_nil)
    (dss_one (ds_ret (de_callB (cd_all rfl) rfl T.z_all rfl (da_cons (de_comp (scX := defScope s_is_number) (NX := ["text"]) (N := ["sign"]) (k := 1) (fv := []) rfl ⟨rfl, by decide +kernel, by decide +kernel, by decide +kernel, rfl, by decide +kernel, by decide +kernel⟩ rfl rfl (di_str (de_var 0 (pv 0))) (below_name (by decide)) (fun _ _ _ _ => ⟨(dg_name (pg_name (i := 0) (show List.Nodup (α := Str) ["sign"] by decide +kernel) rfl (Or.inl rfl))), rfl, (de_cmp (od_in hu) (de_var 0 (pv 0)) (de_globS rfl T.c_FIGURES) rfl)⟩)) da_nil))))))
theorem sc_read_number : FnScope ["text"] ["text"] (defScope s_read_number) := ⟨rfl, rfl, rfl, by decide +kernel, rfl, by decide +kernel, by decide +kernel⟩
theorem ok_read_number (T : Txt K mg) : FnOk P w K mg base (CXe P w (.ref T.C_NoText)) 2 T.f_read_number T.fd_read_number ["text"] (spX K m_read_number) :=
  fn_okX (k := 1) (kk := 1) (m := b_read_number) (by decide) T.F_read_number sc_read_number rfl fun cdv A outer s H E hr =>
    have hu := hr.units
    (dss_cons (ds_if (dt_not (dt_val (de_call (ok_is_number T) (hr.mono (by decide)) rfl T.g_is_number T.F_is_number.kp T.b_is_number (da_cons (de_var 0 (pv 0)) da_nil)))) (dss_one (ds_raiseK rfl (fun h => h.2) rfl T.g_NoText T.q_NoText PySem.F.excBase_ValueError)) dss_nil)
    (dss_one (ds_ret (de_callTy cd_int rfl T.z_int rfl (da_cons (de_var 0 (pv 0)) da_nil)))))
theorem sc_parts_of_piece : FnScope ["text", "parts", "rest", "sign", "cut"] ["text"] (defScope s_parts_of_piece) := ⟨rfl, rfl, rfl, by decide +kernel, rfl, by decide +kernel, by decide +kernel⟩
theorem ok_parts_of_piece (T : Txt K mg) : FnOk P w K mg base CX0 1 T.f_parts_of_piece T.fd_parts_of_piece ["text"] (spD K m_parts_of_piece) :=
  fn_okM (k := 0) (kk := 10) (m := b_parts_of_piece) (by decide) T.F_parts_of_piece sc_parts_of_piece rfl fun cdv A outer s H E hr =>
    have hu := hr.units
    (dss_cons (ds_own (n := 5) (i := 1) rfl (by decide) (df_lst da_nil (by decide)) (pg_name (i := 1) sc_parts_of_piece.nd rfl (Or.inl rfl)))
    (dss_cons (ds_asg (de_var 0 (pv 0)) (dg_name (pg_name (i := 2) sc_parts_of_piece.nd rfl (Or.inl rfl))))
    (dss_cons (ds_for PassesOwn.never rfl (di_globT (zs := ["-", "@", "+"]) rfl T.c_SIGNS_BETWEEN T.l_SIGNS_BETWEEN rfl rfl (show 3 ≤ sizeLine by rw [lim_eq]; decide) T.v_SIGNS_BETWEEN) (dg_name (pg_name (i := 3) sc_parts_of_piece.nd rfl (Or.inl rfl)))
    (dss_cons (ds_asg (de_partition (de_var 2 (pv 2)) (de_var 3 (pv 3))) (dg_name (pg_name (i := 4) sc_parts_of_piece.nd rfl (Or.inl rfl))))
    (dss_cons (ds_app (n := 5) (i := 1) rfl (by decide) rfl (pv 1) (de_ix id_ix (de_var 4 (pv 4)) de_int (fun _ _ => rfl)))
    (dss_one (ds_asg (de_ix id_ix (de_var 4 (pv 4)) de_int (fun _ _ => rfl)) (dg_name (pg_name (i := 2) sc_parts_of_piece.nd rfl (Or.inl rfl))))))))
    (dss_cons (ds_app (n := 5) (i := 1) rfl (by decide) rfl (pv 1) (de_var 2 (pv 2)))
    (dss_frz (n := 5) (is := [1]) rfl (by decide) rfl (dss_one (ds_ret (de_var 1 (pv 1)))))))))
theorem sc_read_piece : FnScope ["text"] ["text"] (defScope s_read_piece) := ⟨rfl, rfl, rfl, by decide +kernel, rfl, by decide +kernel, by decide +kernel⟩
theorem ok_read_piece (T : Txt K mg) : FnOk P w K mg base (CXe P w (.ref T.C_NoText)) 3 T.f_read_piece T.fd_read_piece ["text"] (spX K m_read_piece) :=
  fn_okX (k := 2) (kk := 1) (m := b_read_piece) (by decide) T.F_read_piece sc_read_piece rfl fun cdv A outer s H E hr =>
    have hu := hr.units
    (dss_one (ds_retX (fun h => h.1) (dx_callTyE cd_tuple rfl T.z_tuple rfl (dx_comp (scX := defScope s_read_piece) (NX := ["text"]) (N := ["part"]) (k := 1) (fv := []) blk_pick rfl ⟨rfl, by decide +kernel, by decide +kernel, by decide +kernel, rfl, by decide +kernel, by decide +kernel⟩ rfl rfl (di_seq (de_call (ok_parts_of_piece T) (hr.mono (by decide)) rfl T.g_parts_of_piece T.F_parts_of_piece.kp T.b_parts_of_piece (da_cons (de_var 0 (pv 0)) da_nil))) (below_name (by decide)) (by decide) ⟨rfl, rfl⟩ rfl (fun _ h => Heap.get?_none_of_le h) new_def (fun _ _ _ _ _ _ hn => ⟨(dg_name (pg_name (i := 0) (show List.Nodup (α := Str) ["part"] by decide +kernel) rfl (Or.inl rfl))), rfl, (dx_callE hn (ok_read_number T) (hr.mono (by decide)) rfl T.g_read_number T.F_read_number.kp T.b_read_number (da_cons (de_var 0 (pv 0)) da_nil))⟩)))))
theorem sc_read : FnScope ["text", "sheet"] ["text"] (defScope s_read) := ⟨rfl, rfl, rfl, by decide +kernel, rfl, by decide +kernel, by decide +kernel⟩
theorem ok_read (T : Txt K mg) : FnOk P w K mg base (CXe P w (.ref T.C_NoText)) 4 T.f_read T.fd_read ["text"] (spX K m_read) :=
  fn_okX (k := 3) (kk := 2) (m := b_read) (by decide) T.F_read sc_read rfl fun cdv A outer s H E hr =>
    have hu := hr.units
    (dss_cons (ds_if (dt_cmp (od_eq hu) (de_var 0 (pv 0)) (de_globS rfl T.c_NO_PIECES) (nomark _) bl_eq) (dss_one (ds_ret (de_tup da_nil (by decide)))) dss_nil)
    (dss_cons (ds_asgX (fun h => h.1) (dx_callTyE cd_tuple rfl T.z_tuple rfl (dx_comp (scX := defScope s_read) (NX := ["text", "sheet"]) (N := ["part"]) (k := 1) (fv := []) blk_pick rfl ⟨rfl, by decide +kernel, by decide +kernel, by decide +kernel, rfl, by decide +kernel, by decide +kernel⟩ rfl rfl (di_seq (de_split (de_var 0 (pv 0)) de_str)) (below_name (by decide)) (by decide) ⟨rfl, rfl⟩ rfl (fun _ h => Heap.get?_none_of_le h) new_def (fun _ _ _ _ _ _ hn => ⟨(dg_name (pg_name (i := 0) (show List.Nodup (α := Str) ["part"] by decide +kernel) rfl (Or.inl rfl))), rfl, (dx_callE hn (ok_read_piece T) (hr.mono (by decide)) rfl T.g_read_piece T.F_read_piece.kp T.b_read_piece (da_cons (de_var 0 (pv 0)) da_nil))⟩))) (dg_name (pg_name (i := 1) sc_read.nd rfl (Or.inl rfl))))
    (dss_cons (ds_if (dt_not (dt_val (de_call (ok_is_sheet T) (hr.mono (by decide)) rfl T.g_is_sheet T.F_is_sheet.kp T.b_is_sheet (da_cons (de_var 1 (pv 1)) da_nil)))) (dss_one (ds_raiseK rfl (fun h => h.2) rfl T.g_NoText T.q_NoText PySem.F.excBase_ValueError)) dss_nil)
    (dss_one (ds_ret (de_var 1 (pv 1)))))))
theorem sc__law_read : FnScope ["_law_text_here", "_law_found", "e"] ["_law_text_here"] (defScope s__law_read) := ⟨rfl, rfl, rfl, by decide +kernel, rfl, by decide +kernel, by decide +kernel⟩
theorem ok__law_read (T : Txt K mg) : FnOk P w K mg base CX0 5 T.f__law_read T.fd__law_read ["_law_text_here"] (spD K m__law_read) :=
  fn_okM (k := 4) (kk := 3) (m := b__law_read) (by decide) T.F__law_read sc__law_read rfl fun cdv A outer s H E hr =>
    have hu := hr.units
    (dss_cons (ds_asg de_str (dg_name (pg_name (i := 1) sc__law_read.nd rfl (Or.inl rfl))))
    (dss_cons (ds_try (n := 3) (i := 1) (k := 2) rfl ⟨rfl, rfl⟩ sc__law_read.nd rfl rfl (by decide) rfl rfl rfl (dy_call (ok_read T) (hr.mono (by decide)) rfl T.g_read T.F_read.kp T.b_read (fun _ _ => (da_cons (de_var 0 (pv 0)) da_nil))) (fun _ => ⟨.non, pe_non, fun _ _ => .non⟩) rfl T.g_RingError T.x_NoText rfl T.z_isinstance rfl T.g_NoText rfl T.g_NoPiece T.i_NoText rfl T.z_ValueError T.e_NoText T.k_NoText)
    (dss_one (ds_ret (de_var 1 (pv 1))))))
theorem sc_written_piece : FnScope ["piece", "inner", "outer", "begin", "wide"] ["piece"] (defScope s_written_piece) := ⟨rfl, rfl, rfl, by decide +kernel, rfl, by decide +kernel, by decide +kernel⟩
theorem ok_written_piece (T : Txt K mg) : FnOk P w K mg base CX0 1 T.f_written_piece T.fd_written_piece ["piece"] (spD K m_written_piece) :=
  fn_okM (k := 0) (kk := 5) (m := b_written_piece) (by decide) T.F_written_piece sc_written_piece rfl fun cdv A outer s H E hr =>
    have hu := hr.units
    (dss_cons (ds_asg (de_ix id_ix (de_var 0 (pv 0)) de_int (fun _ _ => rfl)) (dg_name (pg_name (i := 1) sc_written_piece.nd rfl (Or.inl rfl))))
    (dss_cons (ds_asg (de_ix id_ix (de_var 0 (pv 0)) de_int (fun _ _ => rfl)) (dg_name (pg_name (i := 2) sc_written_piece.nd rfl (Or.inl rfl))))
    (dss_cons (ds_asg (de_ix id_ix (de_var 0 (pv 0)) de_int (fun _ _ => rfl)) (dg_name (pg_name (i := 3) sc_written_piece.nd rfl (Or.inl rfl))))
    (dss_cons (ds_asg (de_ix id_ix (de_var 0 (pv 0)) de_int (fun _ _ => rfl)) (dg_name (pg_name (i := 4) sc_written_piece.nd rfl (Or.inl rfl))))
    (dss_one (ds_ret (de_fstr (dj_cons (de_fmt (de_var 1 (pv 1))) (dj_cons de_str (dj_cons (de_fmt (de_var 2 (pv 2))) (dj_cons de_str (dj_cons (de_fmt (de_var 3 (pv 3))) (dj_cons de_str (dj_cons (de_fmt (de_var 4 (pv 4))) dj_nil))))))))))))))
theorem sc_written : FnScope ["sheet"] ["sheet"] (defScope s_written) := ⟨rfl, rfl, rfl, by decide +kernel, rfl, by decide +kernel, by decide +kernel⟩
theorem ok_written (T : Txt K mg) : FnOk P w K mg base CX0 2 T.f_written T.fd_written ["sheet"] (spD K m_written) :=
  fn_okM (k := 1) (kk := 1) (m := b_written) (by decide) T.F_written sc_written rfl fun cdv A outer s H E hr =>
    have hu := hr.units
    (dss_cons (ds_if (dt_cmp (od_eq hu) (de_callB cd_len rfl T.z_len PySem.boot_len (da_cons (de_var 0 (pv 0)) da_nil)) de_int (nomark _) bl_eq) (dss_one (ds_ret (de_globS rfl T.c_NO_PIECES))) dss_nil)
    (dss_one (ds_ret (de_join de_str (de_comp (scX := defScope s_written) (NX := ["sheet"]) (N := ["piece"]) (k := 1) (fv := []) rfl ⟨rfl, by decide +kernel, by decide +kernel, by decide +kernel, rfl, by decide +kernel, by decide +kernel⟩ rfl rfl (di_seq (de_var 0 (pv 0))) (below_name (by decide)) (fun _ _ _ _ => ⟨(dg_name (pg_name (i := 0) (show List.Nodup (α := Str) ["piece"] by decide +kernel) rfl (Or.inl rfl))), rfl, (de_call (ok_written_piece T) (hr.mono (by decide)) rfl T.g_written_piece T.F_written_piece.kp T.b_written_piece (da_cons (de_var 0 (pv 0)) da_nil))⟩))))))
theorem sc_law : FnScope ["_law_script", "_law_cell_here", "_law_sheet_here", "_law_text_here", "_law_bad", "_law_found", "_law_some"] ["_law_script"] (defScope s_law) := ⟨rfl, rfl, rfl, by decide +kernel, rfl, by decide +kernel, by decide +kernel⟩
theorem ok_law (T : Txt K mg) : FnOk P w K mg base CX0 6 T.f_law T.fd_law ["_law_script"] (spD K m_law) :=
  fn_okM (k := 5) (kk := 7) (m := b_law) (by decide) T.F_law sc_law rfl fun cdv A outer s H E hr =>
    have hu := hr.units
    (dss_cons (ds_for PassesOwn.never rfl (di_seq (de_cut 8 (de_var 0 (pv 0)))) (dg_name (pg_name (i := 1) sc_law.nd rfl (Or.inl rfl)))
    (dss_cons (ds_asg (de_call (ok__law_sheet T) (hr.mono (by decide)) rfl T.g__law_sheet T.F__law_sheet.kp T.b__law_sheet (da_cons (de_var 1 (pv 1)) (da_cons (de_ix id_ix (de_lst (da_cons de_int (da_cons de_int da_nil)) (by decide)) (de_op od_mod (de_var 1 (pv 1)) de_int) (fun _ _ => rfl)) (da_cons de_int da_nil)))) (dg_name (pg_name (i := 2) sc_law.nd rfl (Or.inl rfl))))
    (dss_cons (ds_asg (de_call (ok__law_text T) (hr.mono (by decide)) rfl T.g__law_text T.F__law_text.kp T.b__law_text (da_cons (de_var 2 (pv 2)) da_nil)) (dg_name (pg_name (i := 3) sc_law.nd rfl (Or.inl rfl))))
    (dss_cons (ds_if (DW.dt (dw_or (dt_cmp (od_ne hu) (de_call (ok_written T) (hr.mono (by decide)) rfl T.g_written T.F_written.kp T.b_written (da_cons (de_var 2 (pv 2)) da_nil)) (de_var 3 (pv 3)) (nomark _) bl_ne) (dw_or1 (dt_cmp (od_ne hu) (de_callX (ok_read T) (hr.mono (by decide)) rfl T.g_read T.F_read.kp T.b_read (da_cons (de_var 3 (pv 3)) da_nil)) (de_var 2 (pv 2)) (nomark _) bl_ne)))) (dss_one (ds_ret de_bl)) dss_nil)
    (dss_cons (ds_asg (de_call (ok__law_spoilt T) (hr.mono (by decide)) rfl T.g__law_spoilt T.F__law_spoilt.kp T.b__law_spoilt (da_cons (de_var 3 (pv 3)) (da_cons (de_op od_fdiv (de_var 1 (pv 1)) de_int) da_nil))) (dg_name (pg_name (i := 4) sc_law.nd rfl (Or.inl rfl))))
    (dss_cons (ds_asg (de_call (ok__law_read T) (hr.mono (by decide)) rfl T.g__law_read T.F__law_read.kp T.b__law_read (da_cons (de_var 4 (pv 4)) da_nil)) (dg_name (pg_name (i := 5) sc_law.nd rfl (Or.inl rfl))))
    (dss_one (ds_if (DW.dt (dw_and (dt_isnotn (de_var 5 (pv 5))) (dw_and1 (DW.dt (dw_or (dt_not (dt_val (de_call (ok_is_sheet T) (hr.mono (by decide)) rfl T.g_is_sheet T.F_is_sheet.kp T.b_is_sheet (da_cons (de_var 5 (pv 5)) da_nil)))) (dw_or1 (dt_cmp (od_ne hu) (de_call (ok__law_text T) (hr.mono (by decide)) rfl T.g__law_text T.F__law_text.kp T.b__law_text (da_cons (de_var 5 (pv 5)) da_nil)) (de_var 4 (pv 4)) (nomark _) bl_ne))))))) (dss_one (ds_ret de_bl)) dss_nil))))))))
    (dss_cons (ds_asg (de_lst (da_cons de_str (da_cons de_str (da_cons de_str (da_cons de_str (da_cons de_str (da_cons de_str (da_cons de_str (da_cons de_str (da_cons de_str (da_cons de_str da_nil)))))))))) (by decide)) (dg_name (pg_name (i := 6) sc_law.nd rfl (Or.inl rfl))))
    (dss_cons (ds_for PassesOwn.never rfl (di_seq (de_op od_add (de_var 6 (pv 6)) (de_lst (da_cons de_str (da_cons de_str (da_cons de_str (da_cons de_str da_nil)))) (by decide)))) (dg_name (pg_name (i := 4) sc_law.nd rfl (Or.inl rfl)))
    (dss_one (ds_if (dt_isnotn (de_call (ok__law_read T) (hr.mono (by decide)) rfl T.g__law_read T.F__law_read.kp T.b__law_read (da_cons (de_var 4 (pv 4)) da_nil))) (dss_one (ds_ret de_bl)) dss_nil)))
    (dss_one (ds_ret (de_and (de_cmp (od_eq hu) (de_callX (ok_read T) (hr.mono (by decide)) rfl T.g_read T.F_read.kp T.b_read (da_cons de_str da_nil)) (de_tup da_nil (by decide)) (nomark _)) (de_one (de_cmp (od_eq hu) (de_callX (ok_read T) (hr.mono (by decide)) rfl T.g_read T.F_read.kp T.b_read (da_cons de_str da_nil)) (de_tup (da_cons (de_tup (da_cons de_int (da_cons de_int (da_cons de_int (da_cons de_int da_nil)))) (by decide)) da_nil) (by decide)) (nomark _)))))))))
end
def txt_mk {K : PySem.W.Frag} {h : Heap} {mg : Str → Option Value} (X : K.In h) (G : h.Ns mainGlobals mg)
    {f0 : Addr} {od0 an0 : Option Addr} {sl0 : Array (Option Value)} {oc0 kV0 dc0 pm0 cd0 ct0 : Value}
    {f1 : Addr} {od1 an1 : Option Addr} {sl1 : Array (Option Value)} {oc1 kV1 dc1 pm1 cd1 ct1 : Value}
    {f2 : Addr} {od2 an2 : Option Addr} {sl2 : Array (Option Value)} {oc2 kV2 dc2 pm2 cd2 ct2 : Value}
    {f3 : Addr} {od3 an3 : Option Addr} {sl3 : Array (Option Value)} {oc3 kV3 dc3 pm3 cd3 ct3 : Value}
    {f4 : Addr} {od4 an4 : Option Addr} {sl4 : Array (Option Value)} {oc4 kV4 dc4 pm4 cd4 ct4 : Value}
    {f5 : Addr} {od5 an5 : Option Addr} {sl5 : Array (Option Value)} {oc5 kV5 dc5 pm5 cd5 ct5 : Value}
    {f6 : Addr} {od6 an6 : Option Addr} {sl6 : Array (Option Value)} {oc6 kV6 dc6 pm6 cd6 ct6 : Value}
    {f7 : Addr} {od7 an7 : Option Addr} {sl7 : Array (Option Value)} {oc7 kV7 dc7 pm7 cd7 ct7 : Value}
    {f8 : Addr} {od8 an8 : Option Addr} {sl8 : Array (Option Value)} {oc8 kV8 dc8 pm8 cd8 ct8 : Value}
    {f9 : Addr} {od9 an9 : Option Addr} {sl9 : Array (Option Value)} {oc9 kV9 dc9 pm9 cd9 ct9 : Value}
    {f10 : Addr} {od10 an10 : Option Addr} {sl10 : Array (Option Value)} {oc10 kV10 dc10 pm10 cd10 ct10 : Value}
    {f11 : Addr} {od11 an11 : Option Addr} {sl11 : Array (Option Value)} {oc11 kV11 dc11 pm11 cd11 ct11 : Value}
    {f12 : Addr} {od12 an12 : Option Addr} {sl12 : Array (Option Value)} {oc12 kV12 dc12 pm12 cd12 ct12 : Value}
    {f13 : Addr} {od13 an13 : Option Addr} {sl13 : Array (Option Value)} {oc13 kV13 dc13 pm13 cd13 ct13 : Value}
    {f14 : Addr} {od14 an14 : Option Addr} {sl14 : Array (Option Value)} {oc14 kV14 dc14 pm14 cd14 ct14 : Value}
    {f15 : Addr} {od15 an15 : Option Addr} {sl15 : Array (Option Value)} {oc15 kV15 dc15 pm15 cd15 ct15 : Value}
    {f16 : Addr} {od16 an16 : Option Addr} {sl16 : Array (Option Value)} {oc16 kV16 dc16 pm16 cd16 ct16 : Value}
    {f17 : Addr} {od17 an17 : Option Addr} {sl17 : Array (Option Value)} {oc17 kV17 dc17 pm17 cd17 ct17 : Value}
    {f18 : Addr} {od18 an18 : Option Addr} {sl18 : Array (Option Value)} {oc18 kV18 dc18 pm18 cd18 ct18 : Value}
    {f19 : Addr} {od19 an19 : Option Addr} {sl19 : Array (Option Value)} {oc19 kV19 dc19 pm19 cd19 ct19 : Value}
    {tk0 : Tok}
    {tk1 : Tok}
    {tk2 : Tok}
    {tk3 : Tok}
    {tk4 : Tok}
    {bt5 : Addr} {dt5 : Option Addr} {nt5 : Nat} {st5 : Array (Option Value)} {tk5_0 tk5_1 tk5_2 : Tok}
    {cc0 : Addr}
    {cc1 : Addr}
    {cc2 : Addr}
    (a0 : PySem.W.nsIn K mainGlobals "_law_mix" = some (some (.ref f0))) (l0 : K.lookup f0 = some ⟨oc0, od0, .func (PySem.W.fnOf "_law_mix" "_law_mix" (defArgs s__law_mix) (defBody s__law_mix) (defScope s__law_mix) .none kV0 dc0 pm0 an0 cd0 ct0), sl0⟩) (c0 : PySem.W.codeIn K cd0 "_law_mix" = true) (k0 : PySem.W.keepIn K (.ref f0) = true)
    (a1 : PySem.W.nsIn K mainGlobals "_law_piece" = some (some (.ref f1))) (l1 : K.lookup f1 = some ⟨oc1, od1, .func (PySem.W.fnOf "_law_piece" "_law_piece" (defArgs s__law_piece) (defBody s__law_piece) (defScope s__law_piece) .none kV1 dc1 pm1 an1 cd1 ct1), sl1⟩) (c1 : PySem.W.codeIn K cd1 "_law_piece" = true) (k1 : PySem.W.keepIn K (.ref f1) = true)
    (a2 : PySem.W.nsIn K mainGlobals "_law_sheet" = some (some (.ref f2))) (l2 : K.lookup f2 = some ⟨oc2, od2, .func (PySem.W.fnOf "_law_sheet" "_law_sheet" (defArgs s__law_sheet) (defBody s__law_sheet) (defScope s__law_sheet) .none kV2 dc2 pm2 an2 cd2 ct2), sl2⟩) (c2 : PySem.W.codeIn K cd2 "_law_sheet" = true) (k2 : PySem.W.keepIn K (.ref f2) = true)
    (a3 : PySem.W.nsIn K mainGlobals "_law_text" = some (some (.ref f3))) (l3 : K.lookup f3 = some ⟨oc3, od3, .func (PySem.W.fnOf "_law_text" "_law_text" (defArgs s__law_text) (defBody s__law_text) (defScope s__law_text) .none kV3 dc3 pm3 an3 cd3 ct3), sl3⟩) (c3 : PySem.W.codeIn K cd3 "_law_text" = true) (k3 : PySem.W.keepIn K (.ref f3) = true)
    (a4 : PySem.W.nsIn K mainGlobals "_law_spoilt" = some (some (.ref f4))) (l4 : K.lookup f4 = some ⟨oc4, od4, .func (PySem.W.fnOf "_law_spoilt" "_law_spoilt" (defArgs s__law_spoilt) (defBody s__law_spoilt) (defScope s__law_spoilt) .none kV4 dc4 pm4 an4 cd4 ct4), sl4⟩) (c4 : PySem.W.codeIn K cd4 "_law_spoilt" = true) (k4 : PySem.W.keepIn K (.ref f4) = true)
    (a5 : PySem.W.nsIn K mainGlobals "is_tuple_of" = some (some (.ref f5))) (l5 : K.lookup f5 = some ⟨oc5, od5, .func (PySem.W.fnOf "is_tuple_of" "is_tuple_of" (defArgs s_is_tuple_of) (defBody s_is_tuple_of) (defScope s_is_tuple_of) .none kV5 dc5 pm5 an5 cd5 ct5), sl5⟩) (c5 : PySem.W.codeIn K cd5 "is_tuple_of" = true) (k5 : PySem.W.keepIn K (.ref f5) = true)
    (a6 : PySem.W.nsIn K mainGlobals "is_ring" = some (some (.ref f6))) (l6 : K.lookup f6 = some ⟨oc6, od6, .func (PySem.W.fnOf "is_ring" "is_ring" (defArgs s_is_ring) (defBody s_is_ring) (defScope s_is_ring) .none kV6 dc6 pm6 an6 cd6 ct6), sl6⟩) (c6 : PySem.W.codeIn K cd6 "is_ring" = true) (k6 : PySem.W.keepIn K (.ref f6) = true)
    (a7 : PySem.W.nsIn K mainGlobals "is_arc" = some (some (.ref f7))) (l7 : K.lookup f7 = some ⟨oc7, od7, .func (PySem.W.fnOf "is_arc" "is_arc" (defArgs s_is_arc) (defBody s_is_arc) (defScope s_is_arc) .none kV7 dc7 pm7 an7 cd7 ct7), sl7⟩) (c7 : PySem.W.codeIn K cd7 "is_arc" = true) (k7 : PySem.W.keepIn K (.ref f7) = true)
    (a8 : PySem.W.nsIn K mainGlobals "is_whole" = some (some (.ref f8))) (l8 : K.lookup f8 = some ⟨oc8, od8, .func (PySem.W.fnOf "is_whole" "is_whole" (defArgs s_is_whole) (defBody s_is_whole) (defScope s_is_whole) .none kV8 dc8 pm8 an8 cd8 ct8), sl8⟩) (c8 : PySem.W.codeIn K cd8 "is_whole" = true) (k8 : PySem.W.keepIn K (.ref f8) = true)
    (a9 : PySem.W.nsIn K mainGlobals "is_piece" = some (some (.ref f9))) (l9 : K.lookup f9 = some ⟨oc9, od9, .func (PySem.W.fnOf "is_piece" "is_piece" (defArgs s_is_piece) (defBody s_is_piece) (defScope s_is_piece) .none kV9 dc9 pm9 an9 cd9 ct9), sl9⟩) (c9 : PySem.W.codeIn K cd9 "is_piece" = true) (k9 : PySem.W.keepIn K (.ref f9) = true)
    (a10 : PySem.W.nsIn K mainGlobals "is_sheet" = some (some (.ref f10))) (l10 : K.lookup f10 = some ⟨oc10, od10, .func (PySem.W.fnOf "is_sheet" "is_sheet" (defArgs s_is_sheet) (defBody s_is_sheet) (defScope s_is_sheet) .none kV10 dc10 pm10 an10 cd10 ct10), sl10⟩) (c10 : PySem.W.codeIn K cd10 "is_sheet" = true) (k10 : PySem.W.keepIn K (.ref f10) = true)
    (a11 : PySem.W.nsIn K mainGlobals "is_number" = some (some (.ref f11))) (l11 : K.lookup f11 = some ⟨oc11, od11, .func (PySem.W.fnOf "is_number" "is_number" (defArgs s_is_number) (defBody s_is_number) (defScope s_is_number) .none kV11 dc11 pm11 an11 cd11 ct11), sl11⟩) (c11 : PySem.W.codeIn K cd11 "is_number" = true) (k11 : PySem.W.keepIn K (.ref f11) = true)
    (a12 : PySem.W.nsIn K mainGlobals "read_number" = some (some (.ref f12))) (l12 : K.lookup f12 = some ⟨oc12, od12, .func (PySem.W.fnOf "read_number" "read_number" (defArgs s_read_number) (defBody s_read_number) (defScope s_read_number) .none kV12 dc12 pm12 an12 cd12 ct12), sl12⟩) (c12 : PySem.W.codeIn K cd12 "read_number" = true) (k12 : PySem.W.keepIn K (.ref f12) = true)
    (a13 : PySem.W.nsIn K mainGlobals "parts_of_piece" = some (some (.ref f13))) (l13 : K.lookup f13 = some ⟨oc13, od13, .func (PySem.W.fnOf "parts_of_piece" "parts_of_piece" (defArgs s_parts_of_piece) (defBody s_parts_of_piece) (defScope s_parts_of_piece) .none kV13 dc13 pm13 an13 cd13 ct13), sl13⟩) (c13 : PySem.W.codeIn K cd13 "parts_of_piece" = true) (k13 : PySem.W.keepIn K (.ref f13) = true)
    (a14 : PySem.W.nsIn K mainGlobals "read_piece" = some (some (.ref f14))) (l14 : K.lookup f14 = some ⟨oc14, od14, .func (PySem.W.fnOf "read_piece" "read_piece" (defArgs s_read_piece) (defBody s_read_piece) (defScope s_read_piece) .none kV14 dc14 pm14 an14 cd14 ct14), sl14⟩) (c14 : PySem.W.codeIn K cd14 "read_piece" = true) (k14 : PySem.W.keepIn K (.ref f14) = true)
    (a15 : PySem.W.nsIn K mainGlobals "read" = some (some (.ref f15))) (l15 : K.lookup f15 = some ⟨oc15, od15, .func (PySem.W.fnOf "read" "read" (defArgs s_read) (defBody s_read) (defScope s_read) .none kV15 dc15 pm15 an15 cd15 ct15), sl15⟩) (c15 : PySem.W.codeIn K cd15 "read" = true) (k15 : PySem.W.keepIn K (.ref f15) = true)
    (a16 : PySem.W.nsIn K mainGlobals "_law_read" = some (some (.ref f16))) (l16 : K.lookup f16 = some ⟨oc16, od16, .func (PySem.W.fnOf "_law_read" "_law_read" (defArgs s__law_read) (defBody s__law_read) (defScope s__law_read) .none kV16 dc16 pm16 an16 cd16 ct16), sl16⟩) (c16 : PySem.W.codeIn K cd16 "_law_read" = true) (k16 : PySem.W.keepIn K (.ref f16) = true)
    (a17 : PySem.W.nsIn K mainGlobals "written_piece" = some (some (.ref f17))) (l17 : K.lookup f17 = some ⟨oc17, od17, .func (PySem.W.fnOf "written_piece" "written_piece" (defArgs s_written_piece) (defBody s_written_piece) (defScope s_written_piece) .none kV17 dc17 pm17 an17 cd17 ct17), sl17⟩) (c17 : PySem.W.codeIn K cd17 "written_piece" = true) (k17 : PySem.W.keepIn K (.ref f17) = true)
    (a18 : PySem.W.nsIn K mainGlobals "written" = some (some (.ref f18))) (l18 : K.lookup f18 = some ⟨oc18, od18, .func (PySem.W.fnOf "written" "written" (defArgs s_written) (defBody s_written) (defScope s_written) .none kV18 dc18 pm18 an18 cd18 ct18), sl18⟩) (c18 : PySem.W.codeIn K cd18 "written" = true) (k18 : PySem.W.keepIn K (.ref f18) = true)
    (a19 : PySem.W.nsIn K mainGlobals "law" = some (some (.ref f19))) (l19 : K.lookup f19 = some ⟨oc19, od19, .func (PySem.W.fnOf "law" "law" (defArgs s_law) (defBody s_law) (defScope s_law) .none kV19 dc19 pm19 an19 cd19 ct19), sl19⟩) (c19 : PySem.W.codeIn K cd19 "law" = true) (k19 : PySem.W.keepIn K (.ref f19) = true)
    (v0 : PySem.W.nsIn K mainGlobals "WHOLE_TURN" = some (some (.int 24 tk0)))
    (v1 : PySem.W.nsIn K mainGlobals "MOST_OUTER" = some (some (.int 999 tk1)))
    (v2 : PySem.W.nsIn K mainGlobals "MOST_PIECES" = some (some (.int 8 tk2)))
    (v3 : PySem.W.nsIn K mainGlobals "NO_PIECES" = some (some (.str "none" tk3)))
    (v4 : PySem.W.nsIn K mainGlobals "FIGURES" = some (some (.str "0123456789" tk4)))
    (v5 : PySem.W.nsIn K mainGlobals "SIGNS_BETWEEN" = some (some (.ref bt5))) (w5 : K.lookup bt5 = some ⟨.type "tuple", dt5, .seq #[.str "-" tk5_0, .str "@" tk5_1, .str "+" tk5_2] nt5, st5⟩)
    (cl0 : PySem.W.nsIn K mainGlobals "RingError" = some (some (.ref cc0)))
    (cl1 : PySem.W.nsIn K mainGlobals "NoText" = some (some (.ref cc1)))
    (cl2 : PySem.W.nsIn K mainGlobals "NoPiece" = some (some (.ref cc2)))
    (fa0 : PySem.W.excIn K cc1 [.type "ValueError", .type "Exception", .type "BaseException", .type "object"] "ValueError.__new__" = true)
    (fa1 : PySem.W.exmOne K (.ref cc1) (.ref cc0) = some true)
    (fa2 : PySem.W.kitOne K (.ref cc1) (.ref cc2) = some false)
    (fa3 : PySem.W.kitOne K (.ref cc1) (.type "ValueError") = some true)
    (fa4 : PySem.W.findIn K (.ref cc1) "__getattribute__" = some (some (.builtin "BaseException.__getattribute__")))
    (fa5 : PySem.W.findIn K (.ref cc1) "__getattr__" = some none)
    (fa6 : PySem.W.mroIn K cc1 (.type "BaseException") = some true)
    (fa7 : PySem.W.hasDictIn K cc1 = true)
    (fa8 : PySem.W.findIn K (.ref cc1) "__class__" = some (some (.builtin "object.__class__")))
    (fa9 : PySem.W.specialIn K (.builtin "object.__class__") "__get__" = some (some (.builtin "getset_descriptor.__get__")))
    (fa10 : PySem.W.takesIn K (.builtin "object.__class__") = some true)
    (fa11 : PySem.W.mroIn K cc1 (.type "object") = some true)
    (z0 : PySem.W.nsIn K mainGlobals "ValueError" = some none)
    (z1 : PySem.W.nsIn K mainGlobals "all" = some none)
    (z2 : PySem.W.nsIn K mainGlobals "bool" = some none)
    (z3 : PySem.W.nsIn K mainGlobals "int" = some none)
    (z4 : PySem.W.nsIn K mainGlobals "isinstance" = some none)
    (z5 : PySem.W.nsIn K mainGlobals "len" = some none)
    (z6 : PySem.W.nsIn K mainGlobals "range" = some none)
    (z7 : PySem.W.nsIn K mainGlobals "str" = some none)
    (z8 : PySem.W.nsIn K mainGlobals "tuple" = some none) : Txt K mg := {
    f__law_mix := f0, fd__law_mix := _, F__law_mix := fun_mk (st := s__law_mix) l0 c0 k0, g__law_mix := PySem.W.mg_of X G a0,
    b__law_mix := (fun_mk (st := s__law_mix) l0 c0 k0).binds (ps := ["_law_cell_here", "_law_prime", "_law_many"]) fun _ _ _ _ _ _ us hl => match us, hl with | [_, _, _], _ => rfl,
    f__law_piece := f1, fd__law_piece := _, F__law_piece := fun_mk (st := s__law_piece) l1 c1 k1, g__law_piece := PySem.W.mg_of X G a1,
    b__law_piece := (fun_mk (st := s__law_piece) l1 c1 k1).binds (ps := ["_law_cell_here", "_law_most"]) fun _ _ _ _ _ _ us hl => match us, hl with | [_, _], _ => rfl,
    f__law_sheet := f2, fd__law_sheet := _, F__law_sheet := fun_mk (st := s__law_sheet) l2 c2 k2, g__law_sheet := PySem.W.mg_of X G a2,
    b__law_sheet := (fun_mk (st := s__law_sheet) l2 c2 k2).binds (ps := ["_law_cell_here", "_law_most", "_law_many"]) fun _ _ _ _ _ _ us hl => match us, hl with | [_, _, _], _ => rfl,
    f__law_text := f3, fd__law_text := _, F__law_text := fun_mk (st := s__law_text) l3 c3 k3, g__law_text := PySem.W.mg_of X G a3,
    b__law_text := (fun_mk (st := s__law_text) l3 c3 k3).binds (ps := ["_law_sheet_here"]) fun _ _ _ _ _ _ us hl => match us, hl with | [_], _ => rfl,
    f__law_spoilt := f4, fd__law_spoilt := _, F__law_spoilt := fun_mk (st := s__law_spoilt) l4 c4 k4, g__law_spoilt := PySem.W.mg_of X G a4,
    b__law_spoilt := (fun_mk (st := s__law_spoilt) l4 c4 k4).binds (ps := ["_law_text_here", "_law_cell_here"]) fun _ _ _ _ _ _ us hl => match us, hl with | [_, _], _ => rfl,
    f_is_tuple_of := f5, fd_is_tuple_of := _, F_is_tuple_of := fun_mk (st := s_is_tuple_of) l5 c5 k5, g_is_tuple_of := PySem.W.mg_of X G a5,
    b_is_tuple_of := (fun_mk (st := s_is_tuple_of) l5 c5 k5).binds (ps := ["length", "thing"]) fun _ _ _ _ _ _ us hl => match us, hl with | [_, _], _ => rfl,
    f_is_ring := f6, fd_is_ring := _, F_is_ring := fun_mk (st := s_is_ring) l6 c6 k6, g_is_ring := PySem.W.mg_of X G a6,
    b_is_ring := (fun_mk (st := s_is_ring) l6 c6 k6).binds (ps := ["inner", "outer"]) fun _ _ _ _ _ _ us hl => match us, hl with | [_, _], _ => rfl,
    f_is_arc := f7, fd_is_arc := _, F_is_arc := fun_mk (st := s_is_arc) l7 c7 k7, g_is_arc := PySem.W.mg_of X G a7,
    b_is_arc := (fun_mk (st := s_is_arc) l7 c7 k7).binds (ps := ["begin", "wide"]) fun _ _ _ _ _ _ us hl => match us, hl with | [_, _], _ => rfl,
    f_is_whole := f8, fd_is_whole := _, F_is_whole := fun_mk (st := s_is_whole) l8 c8 k8, g_is_whole := PySem.W.mg_of X G a8,
    b_is_whole := (fun_mk (st := s_is_whole) l8 c8 k8).binds (ps := ["thing"]) fun _ _ _ _ _ _ us hl => match us, hl with | [_], _ => rfl,
    f_is_piece := f9, fd_is_piece := _, F_is_piece := fun_mk (st := s_is_piece) l9 c9 k9, g_is_piece := PySem.W.mg_of X G a9,
    b_is_piece := (fun_mk (st := s_is_piece) l9 c9 k9).binds (ps := ["thing"]) fun _ _ _ _ _ _ us hl => match us, hl with | [_], _ => rfl,
    f_is_sheet := f10, fd_is_sheet := _, F_is_sheet := fun_mk (st := s_is_sheet) l10 c10 k10, g_is_sheet := PySem.W.mg_of X G a10,
    b_is_sheet := (fun_mk (st := s_is_sheet) l10 c10 k10).binds (ps := ["thing"]) fun _ _ _ _ _ _ us hl => match us, hl with | [_], _ => rfl,
    f_is_number := f11, fd_is_number := _, F_is_number := fun_mk (st := s_is_number) l11 c11 k11, g_is_number := PySem.W.mg_of X G a11,
    b_is_number := (fun_mk (st := s_is_number) l11 c11 k11).binds (ps := ["text"]) fun _ _ _ _ _ _ us hl => match us, hl with | [_], _ => rfl,
    f_read_number := f12, fd_read_number := _, F_read_number := fun_mk (st := s_read_number) l12 c12 k12, g_read_number := PySem.W.mg_of X G a12,
    b_read_number := (fun_mk (st := s_read_number) l12 c12 k12).binds (ps := ["text"]) fun _ _ _ _ _ _ us hl => match us, hl with | [_], _ => rfl,
    f_parts_of_piece := f13, fd_parts_of_piece := _, F_parts_of_piece := fun_mk (st := s_parts_of_piece) l13 c13 k13, g_parts_of_piece := PySem.W.mg_of X G a13,
    b_parts_of_piece := (fun_mk (st := s_parts_of_piece) l13 c13 k13).binds (ps := ["text"]) fun _ _ _ _ _ _ us hl => match us, hl with | [_], _ => rfl,
    f_read_piece := f14, fd_read_piece := _, F_read_piece := fun_mk (st := s_read_piece) l14 c14 k14, g_read_piece := PySem.W.mg_of X G a14,
    b_read_piece := (fun_mk (st := s_read_piece) l14 c14 k14).binds (ps := ["text"]) fun _ _ _ _ _ _ us hl => match us, hl with | [_], _ => rfl,
    f_read := f15, fd_read := _, F_read := fun_mk (st := s_read) l15 c15 k15, g_read := PySem.W.mg_of X G a15,
    b_read := (fun_mk (st := s_read) l15 c15 k15).binds (ps := ["text"]) fun _ _ _ _ _ _ us hl => match us, hl with | [_], _ => rfl,
    f__law_read := f16, fd__law_read := _, F__law_read := fun_mk (st := s__law_read) l16 c16 k16, g__law_read := PySem.W.mg_of X G a16,
    b__law_read := (fun_mk (st := s__law_read) l16 c16 k16).binds (ps := ["_law_text_here"]) fun _ _ _ _ _ _ us hl => match us, hl with | [_], _ => rfl,
    f_written_piece := f17, fd_written_piece := _, F_written_piece := fun_mk (st := s_written_piece) l17 c17 k17, g_written_piece := PySem.W.mg_of X G a17,
    b_written_piece := (fun_mk (st := s_written_piece) l17 c17 k17).binds (ps := ["piece"]) fun _ _ _ _ _ _ us hl => match us, hl with | [_], _ => rfl,
    f_written := f18, fd_written := _, F_written := fun_mk (st := s_written) l18 c18 k18, g_written := PySem.W.mg_of X G a18,
    b_written := (fun_mk (st := s_written) l18 c18 k18).binds (ps := ["sheet"]) fun _ _ _ _ _ _ us hl => match us, hl with | [_], _ => rfl,
    f_law := f19, fd_law := _, F_law := fun_mk (st := s_law) l19 c19 k19, g_law := PySem.W.mg_of X G a19,
    b_law := (fun_mk (st := s_law) l19 c19 k19).binds (ps := ["_law_script"]) fun _ _ _ _ _ _ us hl => match us, hl with | [_], _ => rfl,
    k_WHOLE_TURN := tk0, c_WHOLE_TURN := PySem.W.mg_of X G v0,
    k_MOST_OUTER := tk1, c_MOST_OUTER := PySem.W.mg_of X G v1,
    k_MOST_PIECES := tk2, c_MOST_PIECES := PySem.W.mg_of X G v2,
    k_NO_PIECES := tk3, c_NO_PIECES := PySem.W.mg_of X G v3,
    k_FIGURES := tk4, c_FIGURES := PySem.W.mg_of X G v4,
    ad_SIGNS_BETWEEN := bt5, d_SIGNS_BETWEEN := dt5, n_SIGNS_BETWEEN := nt5, sl_SIGNS_BETWEEN := st5, t0_SIGNS_BETWEEN := tk5_0, t1_SIGNS_BETWEEN := tk5_1, t2_SIGNS_BETWEEN := tk5_2, c_SIGNS_BETWEEN := PySem.W.mg_of X G v5, l_SIGNS_BETWEEN := w5,
    C_RingError := cc0, g_RingError := PySem.W.mg_of X G cl0,
    C_NoText := cc1, g_NoText := PySem.W.mg_of X G cl1,
    C_NoPiece := cc2, g_NoPiece := PySem.W.mg_of X G cl2,
    q_NoText := fa0,
    x_NoText := fa1,
    i_NoText := fa2,
    e_NoText := fa3,
    k1_NoText := fa4,
    k7_NoText := fa5,
    k8_NoText := fa6,
    k2_NoText := fa7,
    k3_NoText := fa8,
    k4_NoText := fa9,
    k5_NoText := fa10,
    k6_NoText := fa11,
    z_ValueError := PySem.W.mg_none_of X G z0,
    z_all := PySem.W.mg_none_of X G z1,
    z_bool := PySem.W.mg_none_of X G z2,
    z_int := PySem.W.mg_none_of X G z3,
    z_isinstance := PySem.W.mg_none_of X G z4,
    z_len := PySem.W.mg_none_of X G z5,
    z_range := PySem.W.mg_none_of X G z6,
    z_str := PySem.W.mg_none_of X G z7,
    z_tuple := PySem.W.mg_none_of X G z8 }
theorem all_mk {l : PySem.W.OpenLaw} {w : World} {K : PySem.W.Frag} {h : Heap} {mg : Str → Option Value} {fa : Addr} (X : K.In h) (G : h.Ns mainGlobals mg) (hfa : mg "law" = some (.ref fa))
    {f0 : Addr} {od0 an0 : Option Addr} {sl0 : Array (Option Value)} {oc0 kV0 dc0 pm0 cd0 ct0 : Value}
    {f1 : Addr} {od1 an1 : Option Addr} {sl1 : Array (Option Value)} {oc1 kV1 dc1 pm1 cd1 ct1 : Value}
    {f2 : Addr} {od2 an2 : Option Addr} {sl2 : Array (Option Value)} {oc2 kV2 dc2 pm2 cd2 ct2 : Value}
    {f3 : Addr} {od3 an3 : Option Addr} {sl3 : Array (Option Value)} {oc3 kV3 dc3 pm3 cd3 ct3 : Value}
    {f4 : Addr} {od4 an4 : Option Addr} {sl4 : Array (Option Value)} {oc4 kV4 dc4 pm4 cd4 ct4 : Value}
    {f5 : Addr} {od5 an5 : Option Addr} {sl5 : Array (Option Value)} {oc5 kV5 dc5 pm5 cd5 ct5 : Value}
    {f6 : Addr} {od6 an6 : Option Addr} {sl6 : Array (Option Value)} {oc6 kV6 dc6 pm6 cd6 ct6 : Value}
    {f7 : Addr} {od7 an7 : Option Addr} {sl7 : Array (Option Value)} {oc7 kV7 dc7 pm7 cd7 ct7 : Value}
    {f8 : Addr} {od8 an8 : Option Addr} {sl8 : Array (Option Value)} {oc8 kV8 dc8 pm8 cd8 ct8 : Value}
    {f9 : Addr} {od9 an9 : Option Addr} {sl9 : Array (Option Value)} {oc9 kV9 dc9 pm9 cd9 ct9 : Value}
    {f10 : Addr} {od10 an10 : Option Addr} {sl10 : Array (Option Value)} {oc10 kV10 dc10 pm10 cd10 ct10 : Value}
    {f11 : Addr} {od11 an11 : Option Addr} {sl11 : Array (Option Value)} {oc11 kV11 dc11 pm11 cd11 ct11 : Value}
    {f12 : Addr} {od12 an12 : Option Addr} {sl12 : Array (Option Value)} {oc12 kV12 dc12 pm12 cd12 ct12 : Value}
    {f13 : Addr} {od13 an13 : Option Addr} {sl13 : Array (Option Value)} {oc13 kV13 dc13 pm13 cd13 ct13 : Value}
    {f14 : Addr} {od14 an14 : Option Addr} {sl14 : Array (Option Value)} {oc14 kV14 dc14 pm14 cd14 ct14 : Value}
    {f15 : Addr} {od15 an15 : Option Addr} {sl15 : Array (Option Value)} {oc15 kV15 dc15 pm15 cd15 ct15 : Value}
    {f16 : Addr} {od16 an16 : Option Addr} {sl16 : Array (Option Value)} {oc16 kV16 dc16 pm16 cd16 ct16 : Value}
    {f17 : Addr} {od17 an17 : Option Addr} {sl17 : Array (Option Value)} {oc17 kV17 dc17 pm17 cd17 ct17 : Value}
    {f18 : Addr} {od18 an18 : Option Addr} {sl18 : Array (Option Value)} {oc18 kV18 dc18 pm18 cd18 ct18 : Value}
    {f19 : Addr} {od19 an19 : Option Addr} {sl19 : Array (Option Value)} {oc19 kV19 dc19 pm19 cd19 ct19 : Value}
    {tk0 : Tok}
    {tk1 : Tok}
    {tk2 : Tok}
    {tk3 : Tok}
    {tk4 : Tok}
    {bt5 : Addr} {dt5 : Option Addr} {nt5 : Nat} {st5 : Array (Option Value)} {tk5_0 tk5_1 tk5_2 : Tok}
    {cc0 : Addr}
    {cc1 : Addr}
    {cc2 : Addr}
    (a0 : PySem.W.nsIn K mainGlobals "_law_mix" = some (some (.ref f0))) (l0 : K.lookup f0 = some ⟨oc0, od0, .func (PySem.W.fnOf "_law_mix" "_law_mix" (defArgs s__law_mix) (defBody s__law_mix) (defScope s__law_mix) .none kV0 dc0 pm0 an0 cd0 ct0), sl0⟩) (c0 : PySem.W.codeIn K cd0 "_law_mix" = true) (k0 : PySem.W.keepIn K (.ref f0) = true)
    (a1 : PySem.W.nsIn K mainGlobals "_law_piece" = some (some (.ref f1))) (l1 : K.lookup f1 = some ⟨oc1, od1, .func (PySem.W.fnOf "_law_piece" "_law_piece" (defArgs s__law_piece) (defBody s__law_piece) (defScope s__law_piece) .none kV1 dc1 pm1 an1 cd1 ct1), sl1⟩) (c1 : PySem.W.codeIn K cd1 "_law_piece" = true) (k1 : PySem.W.keepIn K (.ref f1) = true)
    (a2 : PySem.W.nsIn K mainGlobals "_law_sheet" = some (some (.ref f2))) (l2 : K.lookup f2 = some ⟨oc2, od2, .func (PySem.W.fnOf "_law_sheet" "_law_sheet" (defArgs s__law_sheet) (defBody s__law_sheet) (defScope s__law_sheet) .none kV2 dc2 pm2 an2 cd2 ct2), sl2⟩) (c2 : PySem.W.codeIn K cd2 "_law_sheet" = true) (k2 : PySem.W.keepIn K (.ref f2) = true)
    (a3 : PySem.W.nsIn K mainGlobals "_law_text" = some (some (.ref f3))) (l3 : K.lookup f3 = some ⟨oc3, od3, .func (PySem.W.fnOf "_law_text" "_law_text" (defArgs s__law_text) (defBody s__law_text) (defScope s__law_text) .none kV3 dc3 pm3 an3 cd3 ct3), sl3⟩) (c3 : PySem.W.codeIn K cd3 "_law_text" = true) (k3 : PySem.W.keepIn K (.ref f3) = true)
    (a4 : PySem.W.nsIn K mainGlobals "_law_spoilt" = some (some (.ref f4))) (l4 : K.lookup f4 = some ⟨oc4, od4, .func (PySem.W.fnOf "_law_spoilt" "_law_spoilt" (defArgs s__law_spoilt) (defBody s__law_spoilt) (defScope s__law_spoilt) .none kV4 dc4 pm4 an4 cd4 ct4), sl4⟩) (c4 : PySem.W.codeIn K cd4 "_law_spoilt" = true) (k4 : PySem.W.keepIn K (.ref f4) = true)
    (a5 : PySem.W.nsIn K mainGlobals "is_tuple_of" = some (some (.ref f5))) (l5 : K.lookup f5 = some ⟨oc5, od5, .func (PySem.W.fnOf "is_tuple_of" "is_tuple_of" (defArgs s_is_tuple_of) (defBody s_is_tuple_of) (defScope s_is_tuple_of) .none kV5 dc5 pm5 an5 cd5 ct5), sl5⟩) (c5 : PySem.W.codeIn K cd5 "is_tuple_of" = true) (k5 : PySem.W.keepIn K (.ref f5) = true)
    (a6 : PySem.W.nsIn K mainGlobals "is_ring" = some (some (.ref f6))) (l6 : K.lookup f6 = some ⟨oc6, od6, .func (PySem.W.fnOf "is_ring" "is_ring" (defArgs s_is_ring) (defBody s_is_ring) (defScope s_is_ring) .none kV6 dc6 pm6 an6 cd6 ct6), sl6⟩) (c6 : PySem.W.codeIn K cd6 "is_ring" = true) (k6 : PySem.W.keepIn K (.ref f6) = true)
    (a7 : PySem.W.nsIn K mainGlobals "is_arc" = some (some (.ref f7))) (l7 : K.lookup f7 = some ⟨oc7, od7, .func (PySem.W.fnOf "is_arc" "is_arc" (defArgs s_is_arc) (defBody s_is_arc) (defScope s_is_arc) .none kV7 dc7 pm7 an7 cd7 ct7), sl7⟩) (c7 : PySem.W.codeIn K cd7 "is_arc" = true) (k7 : PySem.W.keepIn K (.ref f7) = true)
    (a8 : PySem.W.nsIn K mainGlobals "is_whole" = some (some (.ref f8))) (l8 : K.lookup f8 = some ⟨oc8, od8, .func (PySem.W.fnOf "is_whole" "is_whole" (defArgs s_is_whole) (defBody s_is_whole) (defScope s_is_whole) .none kV8 dc8 pm8 an8 cd8 ct8), sl8⟩) (c8 : PySem.W.codeIn K cd8 "is_whole" = true) (k8 : PySem.W.keepIn K (.ref f8) = true)
    (a9 : PySem.W.nsIn K mainGlobals "is_piece" = some (some (.ref f9))) (l9 : K.lookup f9 = some ⟨oc9, od9, .func (PySem.W.fnOf "is_piece" "is_piece" (defArgs s_is_piece) (defBody s_is_piece) (defScope s_is_piece) .none kV9 dc9 pm9 an9 cd9 ct9), sl9⟩) (c9 : PySem.W.codeIn K cd9 "is_piece" = true) (k9 : PySem.W.keepIn K (.ref f9) = true)
    (a10 : PySem.W.nsIn K mainGlobals "is_sheet" = some (some (.ref f10))) (l10 : K.lookup f10 = some ⟨oc10, od10, .func (PySem.W.fnOf "is_sheet" "is_sheet" (defArgs s_is_sheet) (defBody s_is_sheet) (defScope s_is_sheet) .none kV10 dc10 pm10 an10 cd10 ct10), sl10⟩) (c10 : PySem.W.codeIn K cd10 "is_sheet" = true) (k10 : PySem.W.keepIn K (.ref f10) = true)
    (a11 : PySem.W.nsIn K mainGlobals "is_number" = some (some (.ref f11))) (l11 : K.lookup f11 = some ⟨oc11, od11, .func (PySem.W.fnOf "is_number" "is_number" (defArgs s_is_number) (defBody s_is_number) (defScope s_is_number) .none kV11 dc11 pm11 an11 cd11 ct11), sl11⟩) (c11 : PySem.W.codeIn K cd11 "is_number" = true) (k11 : PySem.W.keepIn K (.ref f11) = true)
    (a12 : PySem.W.nsIn K mainGlobals "read_number" = some (some (.ref f12))) (l12 : K.lookup f12 = some ⟨oc12, od12, .func (PySem.W.fnOf "read_number" "read_number" (defArgs s_read_number) (defBody s_read_number) (defScope s_read_number) .none kV12 dc12 pm12 an12 cd12 ct12), sl12⟩) (c12 : PySem.W.codeIn K cd12 "read_number" = true) (k12 : PySem.W.keepIn K (.ref f12) = true)
    (a13 : PySem.W.nsIn K mainGlobals "parts_of_piece" = some (some (.ref f13))) (l13 : K.lookup f13 = some ⟨oc13, od13, .func (PySem.W.fnOf "parts_of_piece" "parts_of_piece" (defArgs s_parts_of_piece) (defBody s_parts_of_piece) (defScope s_parts_of_piece) .none kV13 dc13 pm13 an13 cd13 ct13), sl13⟩) (c13 : PySem.W.codeIn K cd13 "parts_of_piece" = true) (k13 : PySem.W.keepIn K (.ref f13) = true)
    (a14 : PySem.W.nsIn K mainGlobals "read_piece" = some (some (.ref f14))) (l14 : K.lookup f14 = some ⟨oc14, od14, .func (PySem.W.fnOf "read_piece" "read_piece" (defArgs s_read_piece) (defBody s_read_piece) (defScope s_read_piece) .none kV14 dc14 pm14 an14 cd14 ct14), sl14⟩) (c14 : PySem.W.codeIn K cd14 "read_piece" = true) (k14 : PySem.W.keepIn K (.ref f14) = true)
    (a15 : PySem.W.nsIn K mainGlobals "read" = some (some (.ref f15))) (l15 : K.lookup f15 = some ⟨oc15, od15, .func (PySem.W.fnOf "read" "read" (defArgs s_read) (defBody s_read) (defScope s_read) .none kV15 dc15 pm15 an15 cd15 ct15), sl15⟩) (c15 : PySem.W.codeIn K cd15 "read" = true) (k15 : PySem.W.keepIn K (.ref f15) = true)
    (a16 : PySem.W.nsIn K mainGlobals "_law_read" = some (some (.ref f16))) (l16 : K.lookup f16 = some ⟨oc16, od16, .func (PySem.W.fnOf "_law_read" "_law_read" (defArgs s__law_read) (defBody s__law_read) (defScope s__law_read) .none kV16 dc16 pm16 an16 cd16 ct16), sl16⟩) (c16 : PySem.W.codeIn K cd16 "_law_read" = true) (k16 : PySem.W.keepIn K (.ref f16) = true)
    (a17 : PySem.W.nsIn K mainGlobals "written_piece" = some (some (.ref f17))) (l17 : K.lookup f17 = some ⟨oc17, od17, .func (PySem.W.fnOf "written_piece" "written_piece" (defArgs s_written_piece) (defBody s_written_piece) (defScope s_written_piece) .none kV17 dc17 pm17 an17 cd17 ct17), sl17⟩) (c17 : PySem.W.codeIn K cd17 "written_piece" = true) (k17 : PySem.W.keepIn K (.ref f17) = true)
    (a18 : PySem.W.nsIn K mainGlobals "written" = some (some (.ref f18))) (l18 : K.lookup f18 = some ⟨oc18, od18, .func (PySem.W.fnOf "written" "written" (defArgs s_written) (defBody s_written) (defScope s_written) .none kV18 dc18 pm18 an18 cd18 ct18), sl18⟩) (c18 : PySem.W.codeIn K cd18 "written" = true) (k18 : PySem.W.keepIn K (.ref f18) = true)
    (a19 : PySem.W.nsIn K mainGlobals "law" = some (some (.ref f19))) (l19 : K.lookup f19 = some ⟨oc19, od19, .func (PySem.W.fnOf "law" "law" (defArgs s_law) (defBody s_law) (defScope s_law) .none kV19 dc19 pm19 an19 cd19 ct19), sl19⟩) (c19 : PySem.W.codeIn K cd19 "law" = true) (k19 : PySem.W.keepIn K (.ref f19) = true)
    (v0 : PySem.W.nsIn K mainGlobals "WHOLE_TURN" = some (some (.int 24 tk0)))
    (v1 : PySem.W.nsIn K mainGlobals "MOST_OUTER" = some (some (.int 999 tk1)))
    (v2 : PySem.W.nsIn K mainGlobals "MOST_PIECES" = some (some (.int 8 tk2)))
    (v3 : PySem.W.nsIn K mainGlobals "NO_PIECES" = some (some (.str "none" tk3)))
    (v4 : PySem.W.nsIn K mainGlobals "FIGURES" = some (some (.str "0123456789" tk4)))
    (v5 : PySem.W.nsIn K mainGlobals "SIGNS_BETWEEN" = some (some (.ref bt5))) (w5 : K.lookup bt5 = some ⟨.type "tuple", dt5, .seq #[.str "-" tk5_0, .str "@" tk5_1, .str "+" tk5_2] nt5, st5⟩)
    (cl0 : PySem.W.nsIn K mainGlobals "RingError" = some (some (.ref cc0)))
    (cl1 : PySem.W.nsIn K mainGlobals "NoText" = some (some (.ref cc1)))
    (cl2 : PySem.W.nsIn K mainGlobals "NoPiece" = some (some (.ref cc2)))
    (fa0 : PySem.W.excIn K cc1 [.type "ValueError", .type "Exception", .type "BaseException", .type "object"] "ValueError.__new__" = true)
    (fa1 : PySem.W.exmOne K (.ref cc1) (.ref cc0) = some true)
    (fa2 : PySem.W.kitOne K (.ref cc1) (.ref cc2) = some false)
    (fa3 : PySem.W.kitOne K (.ref cc1) (.type "ValueError") = some true)
    (fa4 : PySem.W.findIn K (.ref cc1) "__getattribute__" = some (some (.builtin "BaseException.__getattribute__")))
    (fa5 : PySem.W.findIn K (.ref cc1) "__getattr__" = some none)
    (fa6 : PySem.W.mroIn K cc1 (.type "BaseException") = some true)
    (fa7 : PySem.W.hasDictIn K cc1 = true)
    (fa8 : PySem.W.findIn K (.ref cc1) "__class__" = some (some (.builtin "object.__class__")))
    (fa9 : PySem.W.specialIn K (.builtin "object.__class__") "__get__" = some (some (.builtin "getset_descriptor.__get__")))
    (fa10 : PySem.W.takesIn K (.builtin "object.__class__") = some true)
    (fa11 : PySem.W.mroIn K cc1 (.type "object") = some true)
    (z0 : PySem.W.nsIn K mainGlobals "ValueError" = some none)
    (z1 : PySem.W.nsIn K mainGlobals "all" = some none)
    (z2 : PySem.W.nsIn K mainGlobals "bool" = some none)
    (z3 : PySem.W.nsIn K mainGlobals "int" = some none)
    (z4 : PySem.W.nsIn K mainGlobals "isinstance" = some none)
    (z5 : PySem.W.nsIn K mainGlobals "len" = some none)
    (z6 : PySem.W.nsIn K mainGlobals "range" = some none)
    (z7 : PySem.W.nsIn K mainGlobals "str" = some none)
    (z8 : PySem.W.nsIn K mainGlobals "tuple" = some none) :
    ∃ fd : FuncData, (∀ (s : Shared) (v : Value), BindsTo s fd ⟨[v], []⟩ [("_law_script", v)]) ∧ ∀ base : Heap, K.In base → base.Ns mainGlobals mg → FnOk l.prog w K mg base CX0 6 fa fd ["_law_script"] (spD K m_law) := by
  have e := hfa.symm.trans (PySem.W.mg_of X G a19)
  cases e
  refine ⟨(txt_mk X G a0 l0 c0 k0 a1 l1 c1 k1 a2 l2 c2 k2 a3 l3 c3 k3 a4 l4 c4 k4 a5 l5 c5 k5 a6 l6 c6 k6 a7 l7 c7 k7 a8 l8 c8 k8 a9 l9 c9 k9 a10 l10 c10 k10 a11 l11 c11 k11 a12 l12 c12 k12 a13 l13 c13 k13 a14 l14 c14 k14 a15 l15 c15 k15 a16 l16 c16 k16 a17 l17 c17 k17 a18 l18 c18 k18 a19 l19 c19 k19 v0 v1 v2 v3 v4 v5 w5 cl0 cl1 cl2 fa0 fa1 fa2 fa3 fa4 fa5 fa6 fa7 fa8 fa9 fa10 fa11 z0 z1 z2 z3 z4 z5 z6 z7 z8).fd_law, fun s v => .of_eq rfl, fun base _ _ => ok_law (txt_mk X G a0 l0 c0 k0 a1 l1 c1 k1 a2 l2 c2 k2 a3 l3 c3 k3 a4 l4 c4 k4 a5 l5 c5 k5 a6 l6 c6 k6 a7 l7 c7 k7 a8 l8 c8 k8 a9 l9 c9 k9 a10 l10 c10 k10 a11 l11 c11 k11 a12 l12 c12 k12 a13 l13 c13 k13 a14 l14 c14 k14 a15 l15 c15 k15 a16 l16 c16 k16 a17 l17 c17 k17 a18 l18 c18 k18 a19 l19 c19 k19 v0 v1 v2 v3 v4 v5 w5 cl0 cl1 cl2 fa0 fa1 fa2 fa3 fa4 fa5 fa6 fa7 fa8 fa9 fa10 fa11 z0 z1 z2 z3 z4 z5 z6 z7 z8)⟩
theorem walk {l : PySem.W.OpenLaw} {q : Program} {loose : List Str} {XP : (Str → Option Value) → Heap → Prop} {YP : World → Heap → Prop} {d : DefRec} {K : Params → PySem.W.Frag} (hn : l.most = some 63) (hdf : d.params.defaults = [])
    (hY : ∀ (w : World) (h : Heap), YP w h → (K w.params).In h)
    (F : ∀ (w : World) (mg : Str → Option Value) (fa : Addr) (h : Heap), (K w.params).In h → h.Ns mainGlobals mg → mg d.name = some (.ref fa) →
      ∃ fd : FuncData, (∀ (s : Shared) (u : Value), BindsTo s fd ⟨[u], []⟩ [("_law_script", u)]) ∧ ∀ base : Heap, (K w.params).In base → base.Ns mainGlobals mg → FnOk l.prog w (K w.params) mg base CX0 6 fa fd ["_law_script"] (spD (K w.params) m_law)) :
    PySem.W.WalkO q loose XP YP l.row.toRowW d [] (fun f vs => PySem.call f vs) :=
  L2.walk_of (n := 63) (k := 6) (x := "_law_script") (CX := fun _ => CX0) (sp := fun w => spD (K w.params) m_law) hn (by decide) hdf ⟨rfl, by decide, by decide⟩ hY F
    (fun w H a ns hl _ hS => ⟨[], [.lst (ns.map .int)], .bl true, (fun _ z => absurd z (by simp)), hide_nil.symm ▸ .cons (.lst hS (Dens.ints ns)) .nil, r_law ns, fun v H' _ r => r.bl_inv⟩) fun _ _ _ _ _ z => z
end DL.K02

set_option Elab.async false
open PySem PySem.W PyProof.Rows
set_option maxRecDepth 100000 in
set_option maxHeartbeats 0 in
theorem PySem.Challenge.cw_ringlayers_k02_whole_texts_holds : PySem.Challenge.rw_ringlayers_k02_whole_texts.Holds := by
  w_on; o_law; k_head; (case hw => w_witness2)
  k_fill
  refine DL.K02.walk (l := PySem.Challenge.rw_ringlayers_k02_whole_texts) rfl rfl (fun w h Y => PySem.W.kIn_of Y) ?F
  case F =>
    intro w mg fa h KX G hmg
    refine' DL.K02.all_mk KX G hmg ?a0 ?l0 ?c0 ?k0 ?a1 ?l1 ?c1 ?k1 ?a2 ?l2 ?c2 ?k2 ?a3 ?l3 ?c3 ?k3 ?a4 ?l4 ?c4 ?k4 ?a5 ?l5 ?c5 ?k5 ?a6 ?l6 ?c6 ?k6 ?a7 ?l7 ?c7 ?k7 ?a8 ?l8 ?c8 ?k8 ?a9 ?l9 ?c9 ?k9 ?a10 ?l10 ?c10 ?k10 ?a11 ?l11 ?c11 ?k11 ?a12 ?l12 ?c12 ?k12 ?a13 ?l13 ?c13 ?k13 ?a14 ?l14 ?c14 ?k14 ?a15 ?l15 ?c15 ?k15 ?a16 ?l16 ?c16 ?k16 ?a17 ?l17 ?c17 ?k17 ?a18 ?l18 ?c18 ?k18 ?a19 ?l19 ?c19 ?k19 ?v0 ?v1 ?v2 ?v3 ?v4 ?v5 ?w5 ?cl0 ?cl1 ?cl2 ?fa0 ?fa1 ?fa2 ?fa3 ?fa4 ?fa5 ?fa6 ?fa7 ?fa8 ?fa9 ?fa10 ?fa11 ?z0 ?z1 ?z2 ?z3 ?z4 ?z5 ?z6 ?z7 ?z8
    (case a0 => k_is)
    (case l0 => k_is)
    (case c0 => k_is)
    (case k0 => k_is)
    (case a1 => k_is)
    (case l1 => k_is)
    (case c1 => k_is)
    (case k1 => k_is)
    (case a2 => k_is)
    (case l2 => k_is)
    (case c2 => k_is)
    (case k2 => k_is)
    (case a3 => k_is)
    (case l3 => k_is)
    (case c3 => k_is)
    (case k3 => k_is)
    (case a4 => k_is)
    (case l4 => k_is)
    (case c4 => k_is)
    (case k4 => k_is)
    (case a5 => k_is)
    (case l5 => k_is)
    (case c5 => k_is)
    (case k5 => k_is)
    (case a6 => k_is)
    (case l6 => k_is)
    (case c6 => k_is)
    (case k6 => k_is)
    (case a7 => k_is)
    (case l7 => k_is)
    (case c7 => k_is)
    (case k7 => k_is)
    (case a8 => k_is)
    (case l8 => k_is)
    (case c8 => k_is)
    (case k8 => k_is)
    (case a9 => k_is)
    (case l9 => k_is)
    (case c9 => k_is)
    (case k9 => k_is)
    (case a10 => k_is)
    (case l10 => k_is)
    (case c10 => k_is)
    (case k10 => k_is)
    (case a11 => k_is)
    (case l11 => k_is)
    (case c11 => k_is)
    (case k11 => k_is)
    (case a12 => k_is)
    (case l12 => k_is)
    (case c12 => k_is)
    (case k12 => k_is)
    (case a13 => k_is)
    (case l13 => k_is)
    (case c13 => k_is)
    (case k13 => k_is)
    (case a14 => k_is)
    (case l14 => k_is)
    (case c14 => k_is)
    (case k14 => k_is)
    (case a15 => k_is)
    (case l15 => k_is)
    (case c15 => k_is)
    (case k15 => k_is)
    (case a16 => k_is)
    (case l16 => k_is)
    (case c16 => k_is)
    (case k16 => k_is)
    (case a17 => k_is)
    (case l17 => k_is)
    (case c17 => k_is)
    (case k17 => k_is)
    (case a18 => k_is)
    (case l18 => k_is)
    (case c18 => k_is)
    (case k18 => k_is)
    (case a19 => k_is)
    (case l19 => k_is)
    (case c19 => k_is)
    (case k19 => k_is)
    (case v0 => k_is)
    (case v1 => k_is)
    (case v2 => k_is)
    (case v3 => k_is)
    (case v4 => k_is)
    (case v5 => k_is)
    (case w5 => k_is)
    (case cl0 => k_is)
    (case cl1 => k_is)
    (case cl2 => k_is)
    (case fa0 => k_exc)
    (case fa1 => kts_exm)
    (case fa2 => kit_is)
    (case fa3 => kit_is)
    (case fa4 => k_is)
    (case fa5 => k_is)
    (case fa6 => k_is)
    (case fa7 => k_is)
    (case fa8 => k_is)
    (case fa9 => k_is)
    (case fa10 => k_is)
    (case fa11 => k_is)
    (case z0 => k_is)
    (case z1 => k_is)
    (case z2 => k_is)
    (case z3 => k_is)
    (case z4 => k_is)
    (case z5 => k_is)
    (case z6 => k_is)
    (case z7 => k_is)
    (case z8 => k_is)
